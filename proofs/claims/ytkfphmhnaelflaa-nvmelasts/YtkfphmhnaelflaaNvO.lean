/-
  Commands for sectors that aren't the same, completed in whatever order: what each sector has. Of no program. No condition.
-/
import Derived.Test.YtkfphmhnaelflaaNvG
namespace Go.Proofs.Ytkfphmhnaelflaa.Nv
open Go.RowKit

/-- A device whose waiting commands are writes of different sectors: each sector s is to have D s. -/
structure Due (D : Int → ByteArray) (d : Dev) : Prop where
  down : d.down = false
  fail : d.failAt = 0
  keep : d.keep = []
  las : d.lasting.length = 8
  cac : ∀ c ∈ d.cache, 0 ≤ c.sector ∧ c.sector < 8
  clen : d.cache.length + d.waiting.length ≤ 8
  wai : ∀ c ∈ d.waiting, isW c = true ∧ 0 ≤ c.sector ∧ c.sector < 8 ∧ c.data = D c.sector
  apart : (d.waiting.map Cmd.sector).Nodup
  has : ∀ s, 0 ≤ s → s < 8 → s ∈ d.waiting.map Cmd.sector ∨ findL d.lasting d.cache s = D s

theorem find_new (las : List ByteArray) (cache : List Cmd) (c : Cmd) : findL las (cache ++ [c]) c.sector = c.data := by
  unfold findL; simp
theorem find_old {las : List ByteArray} {cache : List Cmd} {c : Cmd} {s : Int} (h : c.sector ≠ s) : findL las (cache ++ [c]) s = findL las cache s := by
  unfold findL; simp [h]
theorem find_set {las : List ByteArray} {cache : List Cmd} {c : Cmd} (h0 : 0 ≤ c.sector) (h1 : c.sector < las.length) : findL (settleL las [c]) (cache.filter (fun o => !(o.sector == c.sector))) c.sector = c.data := by
  rw [find_none (by
    intro o ho
    have := (List.mem_filter.1 ho).2
    simpa using this)]
  simp only [settleL]
  rw [List.getElem?_set_self (by omega)]
  rfl
theorem find_set_old {las : List ByteArray} {cache : List Cmd} {c : Cmd} {s : Int} (h : c.sector ≠ s) (hs : 0 ≤ s) (hc : 0 ≤ c.sector) : findL (settleL las [c]) (cache.filter (fun o => !(o.sector == c.sector))) s = findL las cache s := by
  have e1 : (cache.filter (fun o => !(o.sector == c.sector))).reverse.find? (fun o => o.sector == s) = cache.reverse.find? (fun o => o.sector == s) := by
    rw [← List.filter_reverse, List.find?_filter]
    congr 1
    funext o
    by_cases ho : o.sector = s
    · have : ¬ s = c.sector := fun e => h e.symm
      simp [ho, this]
    · simp [ho]
  have e2 : (settleL las [c])[s.toNat]? = las[s.toNat]? := settleL_other [c] las s.toNat (by
    intro x hx
    simp only [List.mem_cons, List.not_mem_nil, or_false] at hx
    subst hx
    omega)
  unfold findL
  rw [e1, e2]

theorem Due.ok {D : Int → ByteArray} {d : Dev} (h : Due D d) (hd : d.depth ≤ 1000) : Ok d := by
  have hl := h.clen
  refine ⟨by rw [h.las]; decide, hd, fun c hc => by rw [h.las]; exact h.cac c hc, fun c hc => ?_, by omega, by omega⟩
  have := h.wai c hc
  rw [h.las]
  have hk : c.kind = 2 ∨ c.kind = 3 := by
    have := this.1
    simp only [isW, Bool.or_eq_true, beq_iff_eq] at this
    exact this
  exact ⟨by omega, by omega, this.2.1, this.2.2.1⟩

/-- One of them is completed. -/
theorem Due.complete {D : Int → ByteArray} {d : Dev} (h : Due D d) (k : Nat) (hk : k < d.waiting.length) : (completeF d k).2.2 = 0 ∧ Due D (completeF d k).1 ∧ (completeF d k).1.waiting.length + 1 = d.waiting.length ∧ (completeF d k).1.depth = d.depth := by
  have ht : tickF d = d := by unfold tickF; rw [if_pos h.fail]
  have hc : completeF d k = ((finishF { d with waiting := d.waiting.eraseIdx k } d.waiting[k]).1, (finishF { d with waiting := d.waiting.eraseIdx k } d.waiting[k]).2, 0) := by
    unfold completeF
    rw [if_neg (by rw [h.down]; decide), if_neg (by omega), if_neg (by simp [failsF, h.fail]), Int.toNat_natCast, List.getElem?_eq_getElem hk, ht]
    rfl
  rw [hc]
  obtain ⟨c, hcc⟩ : ∃ c, d.waiting[k] = c := ⟨_, rfl⟩
  have hw := h.wai c (hcc ▸ List.getElem_mem hk)
  have hel : (d.waiting.eraseIdx k).length + 1 = d.waiting.length := by rw [List.length_eraseIdx, if_pos hk]; omega
  have hmem : ∀ x ∈ d.waiting.eraseIdx k, x ∈ d.waiting := fun x hx => List.mem_of_mem_eraseIdx hx
  have hnd : ((d.waiting.eraseIdx k).map Cmd.sector).Nodup := h.apart.sublist ((List.eraseIdx_sublist _ _).map _)
  have hin : ∀ s, s ∈ d.waiting.map Cmd.sector → s ≠ c.sector → s ∈ (d.waiting.eraseIdx k).map Cmd.sector := by
    intro s hs hne
    obtain ⟨x, hx, rfl⟩ := List.mem_map.1 hs
    refine List.mem_map.2 ⟨x, ?_, rfl⟩
    obtain ⟨j, hj, hjx⟩ := List.getElem_of_mem hx
    have hjk : j ≠ k := by rintro rfl; rw [hcc] at hjx; exact hne (by rw [hjx])
    rw [List.mem_eraseIdx_iff_getElem]
    exact ⟨j, hj, hjk, hjx⟩
  have hlas := h.las
  have hcl := h.clen
  rw [hcc]
  have hk23 : c.kind = 2 ∨ c.kind = 3 := by
    have := hw.1
    simp only [isW, Bool.or_eq_true, beq_iff_eq] at this
    exact this
  rcases hk23 with h2 | h3
  · have hf : finishF { d with waiting := d.waiting.eraseIdx k } c = ({ d with waiting := d.waiting.eraseIdx k, writes := wrap64 (d.writes + 1), cache := d.cache ++ [c] }, c) := by
      unfold finishF; rw [if_neg (by rw [h2]; decide), if_pos h2]
    rw [hf]
    refine ⟨rfl, ⟨h.down, h.fail, h.keep, h.las, ?_, ?_, fun x hx => h.wai x (hmem x hx), hnd, ?_⟩, hel, rfl⟩
    · intro x hx
      rcases List.mem_append.1 hx with hx | hx
      · exact h.cac x hx
      · simp only [List.mem_cons, List.not_mem_nil, or_false] at hx
        subst hx; exact ⟨hw.2.1, hw.2.2.1⟩
    · show (d.cache ++ [c]).length + (d.waiting.eraseIdx k).length ≤ 8
      rw [List.length_append, List.length_singleton]; omega
    · intro s s0 s8
      by_cases hs : s = c.sector
      · right
        subst hs
        show findL d.lasting (d.cache ++ [c]) c.sector = _
        rw [find_new, hw.2.2.2]
      · rcases h.has s s0 s8 with hh | hh
        · exact .inl (hin s hh hs)
        · right
          show findL d.lasting (d.cache ++ [c]) s = _
          rw [find_old (fun e => hs e.symm), hh]
  · have hf : finishF { d with waiting := d.waiting.eraseIdx k } c = ({ d with waiting := d.waiting.eraseIdx k, writes := wrap64 (d.writes + 1), cache := d.cache.filter (fun o => !(o.sector == c.sector)), lasting := settleL d.lasting [c] }, c) := by
      unfold finishF; rw [if_neg (by rw [h3]; decide), if_neg (by rw [h3]; decide), if_pos h3]
    rw [hf]
    refine ⟨rfl, ⟨h.down, h.fail, h.keep, by show (settleL d.lasting [c]).length = 8; rw [settleL_length]; exact h.las, fun x hx => h.cac x (List.mem_filter.1 hx).1, ?_, fun x hx => h.wai x (hmem x hx), hnd, ?_⟩, hel, rfl⟩
    · show (d.cache.filter (fun o => !(o.sector == c.sector))).length + (d.waiting.eraseIdx k).length ≤ 8
      have := List.length_filter_le (fun o : Cmd => !(o.sector == c.sector)) d.cache
      omega
    · intro s s0 s8
      by_cases hs : s = c.sector
      · right
        subst hs
        show findL (settleL d.lasting [c]) (d.cache.filter (fun o => !(o.sector == c.sector))) c.sector = _
        rw [find_set hw.2.1 (by rw [hlas]; exact hw.2.2.1), hw.2.2.2]
      · rcases h.has s s0 s8 with hh | hh
        · exact .inl (hin s hh hs)
        · right
          show findL (settleL d.lasting [c]) (d.cache.filter (fun o => !(o.sector == c.sector))) s = _
          rw [find_set_old (fun e => hs e.symm) s0 hw.2.1, hh]

end Go.Proofs.Ytkfphmhnaelflaa.Nv
