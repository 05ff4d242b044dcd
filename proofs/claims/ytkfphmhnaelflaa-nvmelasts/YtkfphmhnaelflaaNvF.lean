/-
  What layer 4's device does, as functions of what it has. Of no program. No condition.
-/
import Derived.Test.YtkfphmhnaelflaaNvS
namespace Go.Proofs.Ytkfphmhnaelflaa.Nv
open Go.RowKit

def noCmd : Cmd := ⟨0, 0, ⟨#[]⟩, 0⟩
/-- Data of commands become what lasts, in order. -/
def settleL (las : List ByteArray) : List Cmd → List ByteArray
  | [] => las
  | c :: r => settleL (las.set c.sector.toNat c.data) r
theorem settleL_length (l : List Cmd) (las : List ByteArray) : (settleL las l).length = las.length := by
  induction l generalizing las with
  | nil => rfl
  | cons c r ih => simp [settleL, ih]
theorem settleL_append (a b : List Cmd) (las : List ByteArray) : settleL las (a ++ b) = settleL (settleL las a) b := by
  induction a generalizing las with
  | nil => rfl
  | cons c r ih => simp [settleL, ih]
theorem settleL_other (l : List Cmd) (las : List ByteArray) (k : Nat) (h : ∀ c ∈ l, c.sector.toNat ≠ k) : (settleL las l)[k]? = las[k]? := by
  induction l generalizing las with
  | nil => rfl
  | cons c r ih =>
    rw [settleL, ih _ (fun x hx => h x (List.mem_cons_of_mem _ hx)), List.getElem?_set_ne]
    exact h c (List.mem_cons_self ..)

/-- The newest of the cache's, else what lasts. -/
def findL (las : List ByteArray) (cache : List Cmd) (s : Int) : ByteArray := match cache.reverse.find? (fun c => c.sector == s) with
  | some c => c.data
  | none => (las[s.toNat]?).getD ⟨#[]⟩
def finishF (d : Dev) (c : Cmd) : Dev × Cmd :=
  if c.kind = 1 then ({ d with reads := wrap64 (d.reads + 1) }, { c with data := findL d.lasting d.cache c.sector })
  else if c.kind = 2 then ({ d with writes := wrap64 (d.writes + 1), cache := d.cache ++ [c] }, c)
  else if c.kind = 3 then ({ d with writes := wrap64 (d.writes + 1), cache := d.cache.filter (fun o => !(o.sector == c.sector)), lasting := settleL d.lasting [c] }, c)
  else if c.kind = 4 then ({ d with flushes := wrap64 (d.flushes + 1), lasting := settleL d.lasting d.cache, cache := [] }, c)
  else (d, c)
def unsureF (d : Dev) : List Cmd := d.cache ++ d.waiting.filter isW
/-- Those at the places i, i + 1, .. that are kept. -/
def keptF (keep : List Int) : Nat → List Cmd → List Cmd
  | _, [] => []
  | i, c :: r => if (keep[i % keep.length]?).getD 0 = 0 then keptF keep (i + 1) r else c :: keptF keep (i + 1) r
theorem keptF_mem (keep : List Int) (l : List Cmd) (i : Nat) (c : Cmd) (h : c ∈ keptF keep i l) : c ∈ l := by
  induction l generalizing i with
  | nil => cases h
  | cons x r ih =>
    simp only [keptF] at h
    split at h
    · exact List.mem_cons_of_mem _ (ih _ h)
    · rcases List.mem_cons.1 h with rfl | h
      · exact List.mem_cons_self ..
      · exact List.mem_cons_of_mem _ (ih _ h)
theorem keptF_length (keep : List Int) (l : List Cmd) (i : Nat) : (keptF keep i l).length ≤ l.length := by
  induction l generalizing i with
  | nil => exact Nat.le_refl _
  | cons x r ih =>
    simp only [keptF]
    split
    · have := ih (i + 1); simp; omega
    · have := ih (i + 1); simp; omega
theorem keptF_append (keep : List Int) (a b : List Cmd) (i : Nat) : keptF keep i (a ++ b) = keptF keep i a ++ keptF keep (i + a.length) b := by
  induction a generalizing i with
  | nil => rfl
  | cons x r ih =>
    simp only [List.cons_append, keptF, ih, List.length_cons]
    rw [show i + 1 + r.length = i + (r.length + 1) by omega]
    split <;> rfl
def keptK (keep : List Int) (l : List Cmd) : List Cmd := if keep.length = 0 then [] else keptF keep 0 l
theorem keptK_mem (keep : List Int) (l : List Cmd) (c : Cmd) (h : c ∈ keptK keep l) : c ∈ l := by
  unfold keptK at h
  split at h
  · cases h
  · exact keptF_mem _ _ _ _ h
def crashF (d : Dev) (keep : List Int) : Dev :=
  if d.down = true then d else { d with lasting := settleL d.lasting (keptK keep (unsureF d)), cache := [], waiting := [], down := true }
def bootF (d : Dev) : Dev := { d with down := false, failAt := 0, keep := [] }
/-- What a Submit answers: its error's number. -/
def submitN (d : Dev) (c : Cmd) : Int :=
  if d.down = true then 3
  else if (bareF c).kind < 1 ∨ 4 < (bareF c).kind ∨ ((bareF c).kind ≠ 4 ∧ ¬ (0 ≤ (bareF c).sector ∧ (bareF c).sector < d.lasting.length)) then 1
  else if isW (bareF c) = true ∧ (bareF c).data.size ≠ 512 then 10
  else if d.depth ≤ d.waiting.length then 2
  else 0
def submitF (d : Dev) (c : Cmd) : Dev := if submitN d c = 0 then { d with waiting := d.waiting ++ [bareF c] } else d
def failsF (d : Dev) : Bool := d.failAt != 0 && wrap64 (d.failAt - 1) == 0
def tickF (d : Dev) : Dev := if d.failAt = 0 then d else { d with failAt := wrap64 (d.failAt - 1) }
/-- What a Complete answers: the device then, the command, the error's number. -/
def completeF (d : Dev) (i : Int) : Dev × Cmd × Int :=
  if d.down = true then (d, noCmd, 3)
  else if i < 0 ∨ (d.waiting.length : Int) ≤ i then (d, noCmd, 1)
  else if failsF d = true then (crashF (tickF d) d.keep, noCmd, 3)
  else
    let r := finishF { tickF d with waiting := d.waiting.eraseIdx i.toNat } ((d.waiting[i.toNat]?).getD noCmd)
    (r.1, r.2, 0)

/-- A device that can be: its commands are for sectors that it has. -/
structure Ok (d : Dev) : Prop where
  las : 1 ≤ d.lasting.length ∧ d.lasting.length ≤ 100000
  dep : d.depth ≤ 1000
  cac : ∀ c ∈ d.cache, 0 ≤ c.sector ∧ c.sector < d.lasting.length
  wai : ∀ c ∈ d.waiting, 1 ≤ c.kind ∧ c.kind ≤ 4 ∧ 0 ≤ c.sector ∧ c.sector < d.lasting.length
  wl : d.waiting.length ≤ 1000
  cl : d.cache.length ≤ 1000000

theorem Ok.submit {d : Dev} (h : Ok d) (c : Cmd) : Ok (submitF d c) := by
  unfold submitF
  by_cases hz : submitN d c = 0
  · rw [if_pos hz]
    have h1 := hz
    unfold submitN at h1
    split at h1
    · cases h1
    · split at h1
      · cases h1
      · split at h1
        · cases h1
        · split at h1
          · cases h1
          · rename_i n1 n2 n3 n4
            refine ⟨h.las, h.dep, h.cac, ?_, ?_, h.cl⟩
            · intro x hx
              rcases List.mem_append.1 hx with hx | hx
              · exact h.wai x hx
              · simp only [List.mem_cons, List.not_mem_nil, or_false] at hx
                subst hx
                have h3 := h.las.1
                have hk : (bareF c).kind = c.kind := rfl
                have hs : (bareF c).sector = if c.kind = 4 then 0 else c.sector := rfl
                by_cases h4 : c.kind = 4
                · rw [if_pos h4] at hs
                  have h3' : (1 : Int) ≤ d.lasting.length := by exact_mod_cast h3
                  exact ⟨by omega, by omega, by omega, by show (bareF c).sector < (d.lasting.length : Int); omega⟩
                · rw [if_neg h4] at hs
                  refine ⟨by omega, by omega, ?_, ?_⟩
                  · show 0 ≤ (bareF c).sector
                    rw [hk] at n2
                    by_cases q : 0 ≤ (bareF c).sector
                    · exact q
                    · exact absurd (Or.inr (Or.inr ⟨h4, fun a => q a.1⟩)) n2
                  · show (bareF c).sector < (d.lasting.length : Int)
                    rw [hk] at n2
                    by_cases q : (bareF c).sector < (d.lasting.length : Int)
                    · exact q
                    · exact absurd (Or.inr (Or.inr ⟨h4, fun a => q a.2⟩)) n2
            · have := h.dep
              simp only [List.length_append, List.length_cons, List.length_nil]
              omega
  · rw [if_neg hz]; exact h
theorem Ok.tick {d : Dev} (h : Ok d) : Ok (tickF d) := by
  unfold tickF
  split
  · exact h
  · exact ⟨h.las, h.dep, h.cac, h.wai, h.wl, h.cl⟩
theorem Ok.crash {d : Dev} (h : Ok d) (keep : List Int) : Ok (crashF d keep) := by
  unfold crashF
  split
  · exact h
  · exact ⟨by rw [settleL_length]; exact h.las, h.dep, fun c hc => (by cases hc), fun c hc => (by cases hc), Nat.zero_le _, Nat.zero_le _⟩
theorem Ok.boot {d : Dev} (h : Ok d) : Ok (bootF d) := ⟨h.las, h.dep, h.cac, h.wai, h.wl, h.cl⟩
theorem Ok.finish {d : Dev} (h : Ok d) (c : Cmd) (hs : 0 ≤ c.sector ∧ c.sector < d.lasting.length) (hl : d.cache.length < 1000000) : Ok (finishF d c).1 := by
  unfold finishF
  split
  · exact ⟨h.las, h.dep, h.cac, h.wai, h.wl, h.cl⟩
  · split
    · refine ⟨h.las, h.dep, ?_, h.wai, h.wl, by simp; omega⟩
      intro x hx
      rcases List.mem_append.1 hx with hx | hx
      · exact h.cac x hx
      · simp only [List.mem_cons, List.not_mem_nil, or_false] at hx
        subst hx
        exact hs
    · split
      · refine ⟨by rw [settleL_length]; exact h.las, h.dep, ?_, ?_, h.wl, Nat.le_trans (List.length_filter_le _ _) h.cl⟩
        · intro x hx
          rw [settleL_length]
          exact h.cac x (List.mem_filter.1 hx).1
        · intro x hx
          rw [settleL_length]
          exact h.wai x hx
      · split
        · refine ⟨by rw [settleL_length]; exact h.las, h.dep, fun c hc => (by cases hc), ?_, h.wl, Nat.zero_le _⟩
          intro x hx
          rw [settleL_length]
          exact h.wai x hx
        · exact h
theorem Ok.complete {d : Dev} (h : Ok d) (i : Int) (hl : d.cache.length < 1000000) : Ok (completeF d i).1 := by
  unfold completeF
  split
  · exact h
  · split
    · exact h
    · split
      · exact h.tick.crash _
      · rename_i n1 n2 n3
        have ht : (tickF d).lasting = d.lasting ∧ (tickF d).cache = d.cache ∧ (tickF d).depth = d.depth := by unfold tickF; split <;> exact ⟨rfl, rfl, rfl⟩
        have hd : Ok { tickF d with waiting := d.waiting.eraseIdx i.toNat } := by
          refine ⟨by rw [ht.1]; exact h.las, by show (tickF d).depth ≤ 1000; rw [ht.2.2]; exact h.dep, ?_, ?_, ?_, ?_⟩
          · intro c hc
            have hc' : c ∈ (tickF d).cache := hc
            rw [ht.2.1] at hc'
            show 0 ≤ c.sector ∧ c.sector < ((tickF d).lasting.length : Int)
            rw [ht.1]; exact h.cac c hc'
          · intro c hc
            show 1 ≤ c.kind ∧ c.kind ≤ 4 ∧ 0 ≤ c.sector ∧ c.sector < ((tickF d).lasting.length : Int)
            rw [ht.1]; exact h.wai c (List.mem_of_mem_eraseIdx hc)
          · exact Nat.le_trans (List.length_eraseIdx_le _ _) h.wl
          · show (tickF d).cache.length ≤ 1000000
            rw [ht.2.1]; exact h.cl
        have hi : i.toNat < d.waiting.length := by omega
        refine hd.finish _ ?_ (by show (tickF d).cache.length < 1000000; rw [ht.2.1]; exact hl)
        rw [List.getElem?_eq_getElem hi]
        show 0 ≤ (d.waiting[i.toNat]).sector ∧ (d.waiting[i.toNat]).sector < ((tickF d).lasting.length : Int)
        rw [ht.1]
        have := h.wai _ (List.getElem_mem hi)
        exact ⟨this.2.2.1, this.2.2.2⟩

end Go.Proofs.Ytkfphmhnaelflaa.Nv
