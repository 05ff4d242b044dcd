/-
  The document's first free run is the program's. Pure. No condition.
-/
import Derived.Test.YtkflhakgfpiiaaaDoorBtRef2
namespace Go.Proofs.YtkflhakgfpiiaaaDoor.Bt

theorem mayF_zero (n : Nat) (f : Nat → Bool) (j m : Nat) (hm : 1 ≤ m) : mayF n f j m false = 0 ↔ (j + m ≤ n ∧ ∀ x, x < m → f (j + x) = false) := by
  unfold mayF
  cases hI : insideF n j m
  · rw [if_neg (by decide)]
    refine ⟨fun h => absurd h (by decide), fun h => ?_⟩
    unfold insideF at hI
    simp only [Bool.and_eq_false_iff, decide_eq_false_iff_not] at hI
    omega
  · rw [if_pos rfl]
    unfold insideF at hI
    simp only [Bool.and_eq_true, decide_eq_true_eq] at hI
    rw [Int.toNat_natCast, Int.toNat_natCast]
    by_cases h : ∀ x, x < m → f (j + x) = false
    · rw [if_pos h]
      exact ⟨fun _ => ⟨by omega, h⟩, fun _ => rfl⟩
    · rw [if_neg h]
      exact ⟨fun e => absurd e (by decide), fun e => absurd e.2 h⟩

/-- What the search among the runs says of numbers. -/
def FindAt (B : Nat → Nat) (n m s : Nat) : Option Nat → Prop
  | some i => s ≤ i ∧ mayF n (tk B) i m false = 0 ∧ ∀ j, s ≤ j → j < i → mayF n (tk B) j m false ≠ 0
  | none => ∀ j : Nat, s ≤ j → mayF n (tk B) j m false ≠ 0
theorem first_find (B : Nat → Nat) (n m : Nat) (hm : 1 ≤ m) : ∀ d s f, n - s ≤ d → n - s ≤ f → FindAt B n m s (firstF (runsL B n f s) m) := by
  intro d
  induction d with
  | zero =>
    intro s f hd hf
    rw [runsL_end _ _ _ _ (by omega)]
    intro j hj
    rw [Ne, mayF_zero _ _ _ _ hm]
    omega
  | succ d ih =>
    intro s f hd hf
    by_cases hs : s < n
    · rw [runsL_step B n f s hs hf]
      have hle := runF_le B (n - s) s
      obtain ⟨r, hr⟩ : ∃ r, runF B (n - s) s = r := ⟨_, rfl⟩
      have hfree := fun j h => runF_free B (n - s) s j h
      have hstop := runF_stop B (n - s) s
      rw [hr] at hle hfree hstop ⊢
      by_cases hmr : m ≤ r
      · rw [if_pos (by omega)]
        have e : firstF ([(s, r)] ++ runsL B n f (s + r + 1)) m = some s := by
          unfold firstF
          rw [List.singleton_append, List.find?_cons_of_pos (by simpa using hmr)]
          rfl
        rw [e]
        refine ⟨Nat.le_refl _, (mayF_zero _ _ _ _ hm).2 ⟨by omega, fun x hx => hfree x (by omega)⟩, fun j h1 h2 => by omega⟩
      · have hno : ∀ j, s ≤ j → j ≤ s + r → mayF n (tk B) j m false ≠ 0 := by
          intro j h1 h2
          rw [Ne, mayF_zero _ _ _ _ hm]
          rintro ⟨h3, h4⟩
          by_cases hrn : r < n - s
          · have := h4 (s + r - j) (by omega)
            rw [show j + (s + r - j) = s + r by omega, hstop hrn] at this
            cases this
          · omega
        have e : firstF ((if 0 < r then [(s, r)] else []) ++ runsL B n f (s + r + 1)) m = firstF (runsL B n f (s + r + 1)) m := by
          by_cases h0 : 0 < r
          · rw [if_pos h0]
            unfold firstF
            rw [List.singleton_append, List.find?_cons_of_neg (by simpa using hmr)]
          · rw [if_neg h0, List.nil_append]
        rw [e]
        have hI := ih (s + r + 1) f (by omega) (by omega)
        cases hq : firstF (runsL B n f (s + r + 1)) m with
        | none =>
          rw [hq] at hI
          intro j hj
          by_cases hjr : j ≤ s + r
          · exact hno j hj hjr
          · exact hI j (by omega)
        | some i =>
          rw [hq] at hI
          obtain ⟨h1, h2, h3⟩ := hI
          refine ⟨by omega, h2, fun j h4 h5 => ?_⟩
          by_cases hjr : j ≤ s + r
          · exact hno j h4 hjr
          · exact h3 j (by omega) h5
    · rw [runsL_end _ _ _ _ (by omega)]
      intro j hj
      rw [Ne, mayF_zero _ _ _ _ hm]
      omega

theorem rrun_none (n : Nat) (f : Nat → Bool) (m fr : Int) : ∀ d i, (∀ j : Nat, i ≤ j → j < i + d → ¬ (fr ≤ j ∧ mayF n f j m false = 0)) → rrunF n f m fr d i = -1 := by
  intro d
  induction d with
  | zero => intro i _; rfl
  | succ d ih =>
    intro i h
    rw [rrunF, if_neg (h i (Nat.le_refl _) (by omega))]
    exact ih (i + 1) (fun j h1 h2 => h j (by omega) (by omega))
theorem rrun_some (n : Nat) (f : Nat → Bool) (m fr : Int) : ∀ d i (k : Nat), i ≤ k → k < i + d → (fr ≤ k ∧ mayF n f k m false = 0) → (∀ j : Nat, i ≤ j → j < k → ¬ (fr ≤ j ∧ mayF n f j m false = 0)) → rrunF n f m fr d i = k := by
  intro d
  induction d with
  | zero => intro i k h1 h2; omega
  | succ d ih =>
    intro i k h1 h2 hk h
    by_cases e : i = k
    · subst e
      rw [rrunF, if_pos hk]
    · rw [rrunF, if_neg (h i (Nat.le_refl _) (by omega))]
      exact ih (i + 1) k (by omega) (by omega) hk (fun j h3 h4 => h j (by omega) h4)

/-- The two searches say the same. -/
theorem run_same (B : Nat → Nat) (n : Nat) (m fr : Int) : rrunG n (tk B) m fr = (match runG B n m fr with | some i => (i : Int) | none => -1) := by
  unfold rrunG runG
  by_cases hm : m < 1
  · rw [if_pos hm, if_pos hm]
  · rw [if_neg hm, if_neg hm]
    obtain ⟨q, rfl⟩ : ∃ q : Nat, m = q := ⟨m.toNat, by omega⟩
    have hq : 1 ≤ q := by omega
    obtain ⟨s, hs⟩ : ∃ s, (max fr 0).toNat = s := ⟨_, rfl⟩
    have hsj : ∀ j : Nat, fr ≤ j ↔ s ≤ j := by intro j; omega
    rw [hs]
    clear hs
    by_cases hsn : s ≤ n
    · have hF := first_find B n q hq n s n (by omega) (by omega)
      cases hI : firstF (runsL B n n s) q with
      | none =>
        rw [hI] at hF
        exact rrun_none n (tk B) q fr n 0 (fun j _ _ h => hF j ((hsj j).1 h.1) h.2)
      | some i =>
        rw [hI] at hF
        obtain ⟨h1, h2, h3⟩ := hF
        have h4 := (mayF_zero _ _ _ _ hq).1 h2
        exact rrun_some n (tk B) q fr n 0 i (Nat.zero_le _) (by omega) ⟨(hsj i).2 h1, h2⟩ (fun j _ h5 h6 => h3 j ((hsj j).1 h6.1) h5 h6.2)
    · rw [runsL_end _ _ _ _ (by omega)]
      refine rrun_none n (tk B) q fr n 0 (fun j _ h5 h => ?_)
      have := (hsj j).1 h.1
      omega

end Go.Proofs.YtkflhakgfpiiaaaDoor.Bt
