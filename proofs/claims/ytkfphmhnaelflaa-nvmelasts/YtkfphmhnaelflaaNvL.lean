/-
  A device of four sectors: what was flushed lasts, whatever is written behind to other sectors. Of no program. No condition.
-/
import Derived.Test.YtkfphmhnaelflaaNvCo
import Derived.Test.YtkfphmhnaelflaaNvO
namespace Go.Proofs.Ytkfphmhnaelflaa.Nv
open Go.RowKit

/-- All that is written is of sectors of W; each other one has A. -/
structure Four (W : Int → Prop) (A : Int → ByteArray) (K : Nat) (d : Dev) : Prop where
  depth : d.depth = 8
  down : d.down = false
  fail : d.failAt = 0
  keep : d.keep = []
  las : d.lasting.length = 4
  cac : ∀ c ∈ d.cache, 0 ≤ c.sector ∧ c.sector < 4 ∧ W c.sector
  wai : ∀ c ∈ d.waiting, isW c = true ∧ 0 ≤ c.sector ∧ c.sector < 4 ∧ W c.sector
  was : ∀ s : Nat, s < 4 → ¬ W s → d.lasting[s]? = some (A s)
  wl : d.waiting.length ≤ 8
  cl : d.cache.length + d.waiting.length ≤ K

theorem isW_kind {c : Cmd} (h : isW c = true) : c.kind = 2 ∨ c.kind = 3 := by
  simp only [isW, Bool.or_eq_true, beq_iff_eq] at h
  exact h
theorem Four.ok {W : Int → Prop} {A : Int → ByteArray} {K : Nat} {d : Dev} (h : Four W A K d) (hK : K ≤ 1000) : Ok d := by
  have hl := h.cl
  refine ⟨by rw [h.las]; decide, by rw [h.depth]; decide, fun c hc => by rw [h.las]; exact ⟨(h.cac c hc).1, (h.cac c hc).2.1⟩, fun c hc => ?_, by omega, by omega⟩
  have hw := h.wai c hc
  have hk := isW_kind hw.1
  rw [h.las]
  exact ⟨by omega, by omega, hw.2.1, hw.2.2.1⟩
theorem Four.mono {W W' : Int → Prop} {A : Int → ByteArray} {K K' : Nat} {d : Dev} (h : Four W A K d) (hW : ∀ s, W s → W' s) (hK : K ≤ K') : Four W' A K' d :=
  ⟨h.depth, h.down, h.fail, h.keep, h.las, fun c hc => ⟨(h.cac c hc).1, (h.cac c hc).2.1, hW _ (h.cac c hc).2.2⟩, fun c hc => ⟨(h.wai c hc).1, (h.wai c hc).2.1, (h.wai c hc).2.2.1, hW _ (h.wai c hc).2.2.2⟩, fun s hs hn => h.was s hs (fun g => hn (hW _ g)), h.wl, Nat.le_trans h.cl hK⟩
theorem Four.submit {W : Int → Prop} {A : Int → ByteArray} {K : Nat} {d : Dev} (h : Four W A K d) (c : Cmd) (hc : isW c = true) (h0 : 0 ≤ c.sector) (h4 : c.sector < 4) (hz : c.data.size = 512) (hW : W c.sector) : Four W A (K + 1) (submitF d c) := by
  by_cases hq : d.waiting.length < 8
  · rw [(submit_write hc h.down ⟨h0, by rw [h.las]; exact h4⟩ hz (by rw [h.depth]; omega)).2]
    refine ⟨h.depth, h.down, h.fail, h.keep, h.las, h.cac, ?_, h.was, ?_, ?_⟩
    · intro x hx
      rcases List.mem_append.1 hx with hx | hx
      · exact h.wai x hx
      · simp only [List.mem_cons, List.not_mem_nil, or_false] at hx
        subst hx; exact ⟨hc, h0, h4, hW⟩
    · show (d.waiting ++ [c]).length ≤ 8
      rw [List.length_append, List.length_singleton]; omega
    · show d.cache.length + (d.waiting ++ [c]).length ≤ K + 1
      have := h.cl
      rw [List.length_append, List.length_singleton]; omega
  · have hn : submitN d c ≠ 0 := by
      unfold submitN
      rw [if_neg (by rw [h.down]; decide)]
      split
      · decide
      · split
        · decide
        · rw [if_pos (by rw [h.depth]; omega)]; decide
    unfold submitF
    rw [if_neg hn]
    exact h.mono (fun _ g => g) (Nat.le_succ _)
/-- The first one that waits, if there is one, is completed. -/
theorem Four.complete {W : Int → Prop} {A : Int → ByteArray} {K : Nat} {d : Dev} (h : Four W A K d) : Four W A K (completeF d 0).1 ∧ (d.waiting ≠ [] → (completeF d 0).2.2 = 0 ∧ (completeF d 0).1.waiting.length + 1 = d.waiting.length) := by
  cases hw : d.waiting with
  | nil =>
    have e : completeF d 0 = (d, noCmd, 1) := by
      unfold completeF
      rw [if_neg (by rw [h.down]; decide), if_pos (by rw [hw]; simp)]
    rw [e]
    exact ⟨h, fun g => absurd rfl g⟩
  | cons c r =>
    have ht : tickF d = d := by unfold tickF; rw [if_pos h.fail]
    have e : completeF d 0 = ((finishF { d with waiting := r } c).1, (finishF { d with waiting := r } c).2, 0) := by
      unfold completeF
      rw [if_neg (by rw [h.down]; decide), if_neg (by rw [hw]; simp), if_neg (by simp [failsF, h.fail]), ht, hw]
      rfl
    rw [e]
    have hc := h.wai c (by rw [hw]; exact List.mem_cons_self ..)
    have hr : ∀ x ∈ r, x ∈ d.waiting := fun x hx => by rw [hw]; exact List.mem_cons_of_mem _ hx
    have hl : d.waiting.length = r.length + 1 := by rw [hw]; rfl
    have hwl := h.wl
    have hcl := h.cl
    rcases isW_kind hc.1 with h2 | h3
    · have hf : finishF { d with waiting := r } c = ({ d with waiting := r, writes := wrap64 (d.writes + 1), cache := d.cache ++ [c] }, c) := by
        unfold finishF; rw [if_neg (by rw [h2]; decide), if_pos h2]
      rw [hf]
      refine ⟨⟨h.depth, h.down, h.fail, h.keep, h.las, ?_, fun x hx => h.wai x (hr x hx), h.was, by show r.length ≤ 8; omega, ?_⟩, fun _ => ⟨rfl, rfl⟩⟩
      · intro x hx
        rcases List.mem_append.1 hx with hx | hx
        · exact h.cac x hx
        · simp only [List.mem_cons, List.not_mem_nil, or_false] at hx
          subst hx; exact hc.2
      · show (d.cache ++ [c]).length + r.length ≤ K
        rw [List.length_append, List.length_singleton]; omega
    · have hf : finishF { d with waiting := r } c = ({ d with waiting := r, writes := wrap64 (d.writes + 1), cache := d.cache.filter (fun o => !(o.sector == c.sector)), lasting := settleL d.lasting [c] }, c) := by
        unfold finishF; rw [if_neg (by rw [h3]; decide), if_neg (by rw [h3]; decide), if_pos h3]
      rw [hf]
      refine ⟨⟨h.depth, h.down, h.fail, h.keep, by show (settleL d.lasting [c]).length = 4; rw [settleL_length]; exact h.las, fun x hx => h.cac x (List.mem_filter.1 hx).1, fun x hx => h.wai x (hr x hx), ?_, by show r.length ≤ 8; omega, ?_⟩, fun _ => ⟨rfl, rfl⟩⟩
      · intro s hs hn
        show (settleL d.lasting [c])[s]? = _
        rw [settleL_other [c] d.lasting s (by
          intro x hx
          simp only [List.mem_cons, List.not_mem_nil, or_false] at hx
          subst hx
          intro e
          exact hn (by rw [← e, Int.toNat_of_nonneg hc.2.1]; exact hc.2.2.2))]
        exact h.was s hs hn
      · show (d.cache.filter (fun o => !(o.sector == c.sector))).length + r.length ≤ K
        have := List.length_filter_le (fun o : Cmd => !(o.sector == c.sector)) d.cache
        omega
/-- A flush, with nothing else waiting. -/
theorem Four.flush {W : Int → Prop} {A : Int → ByteArray} {K : Nat} {d : Dev} (h : Four W A K d) (hw : d.waiting = []) :
    submitN d ⟨4, 0, ⟨#[]⟩, 0⟩ = 0 ∧ submitF d ⟨4, 0, ⟨#[]⟩, 0⟩ = { d with waiting := [⟨4, 0, ⟨#[]⟩, 0⟩] } ∧ (completeF { d with waiting := [⟨4, 0, ⟨#[]⟩, 0⟩] } 0).2.2 = 0 ∧
    ∃ A', Four (fun _ => False) A' 0 (completeF { d with waiting := [⟨4, 0, ⟨#[]⟩, 0⟩] } 0).1 := by
  have hn : submitN d ⟨4, 0, ⟨#[]⟩, 0⟩ = 0 := by
    unfold submitN
    rw [if_neg (by rw [h.down]; decide), if_neg (by simp [bareF]), if_neg (by simp [bareF, isW]), if_neg (by rw [h.depth, hw]; decide)]
  have hs : submitF d ⟨4, 0, ⟨#[]⟩, 0⟩ = { d with waiting := [⟨4, 0, ⟨#[]⟩, 0⟩] } := by
    unfold submitF
    rw [if_pos hn, hw]
    simp [bareF, isW]
  refine ⟨hn, hs, ?_, fun s => ((settleL d.lasting d.cache)[s.toNat]?).getD ⟨#[]⟩, ?_⟩
  · rw [complete_alone (d := { d with waiting := [⟨4, 0, ⟨#[]⟩, 0⟩] }) h.down rfl h.fail]
  · rw [complete_alone (d := { d with waiting := [⟨4, 0, ⟨#[]⟩, 0⟩] }) h.down rfl h.fail]
    refine ⟨h.depth, h.down, h.fail, h.keep, by show (settleL d.lasting d.cache).length = 4; rw [settleL_length]; exact h.las, fun c hc => (by cases hc), fun c hc => (by cases hc), ?_, Nat.zero_le _, Nat.le_refl _⟩
    intro s hs _
    show (settleL d.lasting d.cache)[s]? = some (((settleL d.lasting d.cache)[((s : Nat) : Int).toNat]?).getD ⟨#[]⟩)
    have hl : s < (settleL d.lasting d.cache).length := by rw [settleL_length, h.las]; exact hs
    rw [Int.toNat_natCast, List.getElem?_eq_getElem hl]
    rfl
theorem Four.look {W : Int → Prop} {A : Int → ByteArray} {K : Nat} {d : Dev} (h : Four W A K d) (hc : d.cache = []) (s : Nat) (hs : s < 4) : lookN d s = 0 ∧ (¬ W s → lookT d s = A s) := by
  have hN : lookN d s = 0 := by unfold lookN; rw [if_neg (by rw [h.down]; decide), if_pos ⟨by omega, by rw [h.las]; omega⟩]
  refine ⟨hN, fun hn => ?_⟩
  unfold lookT
  rw [if_pos hN, hc, find_none (fun c hc => by cases hc), Int.toNat_natCast, h.was s hs hn]
  rfl
/-- The power fails, and is on again. -/
theorem Four.last {W : Int → Prop} {A : Int → ByteArray} {K : Nat} {d : Dev} (h : Four W A K d) (L : List Int) : Four W A 0 (bootF (crashF d L)) ∧ (bootF (crashF d L)).cache = [] ∧ (bootF (crashF d L)).waiting = [] := by
  have e : crashF d L = { d with lasting := settleL d.lasting (keptK L (unsureF d)), cache := [], waiting := [], down := true } := by unfold crashF; rw [if_neg (by rw [h.down]; decide)]
  rw [e]
  refine ⟨⟨h.depth, rfl, rfl, rfl, by show (settleL d.lasting _).length = 4; rw [settleL_length]; exact h.las, fun c hc => (by cases hc), fun c hc => (by cases hc), ?_, Nat.zero_le _, Nat.le_refl _⟩, rfl, rfl⟩
  intro s hs hn
  show (settleL d.lasting (keptK L (unsureF d)))[s]? = _
  rw [settleL_other _ d.lasting s (by
    intro c hc e
    have hc := keptK_mem _ _ _ hc
    have hg : 0 ≤ c.sector ∧ c.sector < 4 ∧ W c.sector := by
      rcases List.mem_append.1 hc with hc | hc
      · exact h.cac c hc
      · exact (h.wai c (List.mem_filter.1 hc).1).2
    exact hn (by rw [← e, Int.toNat_of_nonneg hg.1]; exact hg.2.2))]
  exact h.was s hs hn

end Go.Proofs.Ytkfphmhnaelflaa.Nv
