/-
  Layer 7's set as plain data: which numbers are taken, the free runs. No condition.
-/
import Derived.Test.YtkflhakgfpiiaaaDoorRows
import Derived.WalkKit
import Derived.ProofKit
import Derived.OpenShut
import Derived.Below
import Derived.OwnWalk
import Derived.Laws.AppendOwn
namespace Go.Proofs.YtkflhakgfpiiaaaDoor.Bt
open Go.ChangeShapes Go.WideShapes Go.ChangeAt Go.RowKit

/-- Is a number taken, of a set with these bytes? -/
def tk (B : Nat → Nat) (i : Nat) : Bool := (B (i / 8)).testBit (i % 8)
/-- One number the other way. -/
def flipB (B : Nat → Nat) (i : Nat) : Nat → Nat := fun j => if j = i / 8 then B j ^^^ 2 ^ (i % 8) else B j
theorem tk_flip (B : Nat → Nat) (i j : Nat) : tk (flipB B i) j = if j = i then !tk B i else tk B j := by
  unfold tk flipB
  by_cases h : j / 8 = i / 8
  · rw [if_pos h, Nat.testBit_xor, Nat.testBit_two_pow, h]
    by_cases h2 : j = i
    · subst h2; simp
    · have h3 : ¬ i % 8 = j % 8 := by omega
      rw [if_neg h2]
      simp [h3]
  · rw [if_neg h, if_neg (by rintro rfl; exact h rfl)]
theorem flip_lt {B : Nat → Nat} (h : ∀ j, B j < 256) (i j : Nat) : flipB B i j < 256 := by
  unfold flipB
  split
  · exact Nat.xor_lt_two_pow (n := 8) (h j) (Nat.pow_lt_pow_right (by decide) (by omega))
  · exact h j

/-- How many numbers are free from one on, of so many at most. -/
def runF (B : Nat → Nat) : Nat → Nat → Nat
  | 0, _ => 0
  | k + 1, i => if tk B i = true then 0 else 1 + runF B k (i + 1)
theorem runF_le (B : Nat → Nat) (k i : Nat) : runF B k i ≤ k := by
  induction k generalizing i with
  | zero => exact Nat.le_refl _
  | succ k ih =>
    unfold runF
    split
    · omega
    · have := ih (i + 1); omega
theorem runF_free (B : Nat → Nat) (k i j : Nat) (h : j < runF B k i) : tk B (i + j) = false := by
  induction k generalizing i j with
  | zero => cases h
  | succ k ih =>
    unfold runF at h
    split at h
    · omega
    · rename_i ht
      cases j with
      | zero => simpa using ht
      | succ j =>
        have := ih (i + 1) j (by omega)
        rw [show i + 1 + j = i + (j + 1) by omega] at this
        exact this
theorem runF_stop (B : Nat → Nat) (k i : Nat) (h : runF B k i < k) : tk B (i + runF B k i) = true := by
  induction k generalizing i with
  | zero => omega
  | succ k ih =>
    by_cases ht : tk B i = true
    · have e : runF B (k + 1) i = 0 := by unfold runF; rw [if_pos ht]
      rw [e]; simpa using ht
    · have e : runF B (k + 1) i = 1 + runF B k (i + 1) := by rw [runF, if_neg ht]
      rw [e] at h ⊢
      have := ih (i + 1) (by omega)
      rw [show i + (1 + runF B k (i + 1)) = i + 1 + runF B k (i + 1) by omega]
      exact this
/-- It is the number up to which all are free. -/
theorem runF_eq (B : Nat → Nat) (k i j : Nat) (hj : j ≤ k) (hf : ∀ x, x < j → tk B (i + x) = false) (hs : j < k → tk B (i + j) = true) : runF B k i = j := by
  rcases Nat.lt_trichotomy (runF B k i) j with h | h | h
  · have := runF_stop B k i (by omega)
    rw [hf _ h] at this; cases this
  · exact h
  · have h1 := runF_free B k i j h
    rw [hs (by have := runF_le B k i; omega)] at h1; cases h1

/-- The free runs from a number on: where each begins, how long it is. -/
def runsL (B : Nat → Nat) (n : Nat) : Nat → Nat → List (Nat × Nat)
  | 0, _ => []
  | f + 1, i => if i < n then (if 0 < runF B (n - i) i then [(i, runF B (n - i) i)] else []) ++ runsL B n f (i + runF B (n - i) i + 1) else []
theorem runsL_end (B : Nat → Nat) (n f i : Nat) (h : n ≤ i) : runsL B n f i = [] := by
  cases f with
  | zero => rfl
  | succ f => unfold runsL; rw [if_neg (by omega)]
theorem runsL_step (B : Nat → Nat) (n f i : Nat) (h : i < n) (hf : n - i ≤ f) : runsL B n f i = (if 0 < runF B (n - i) i then [(i, runF B (n - i) i)] else []) ++ runsL B n f (i + runF B (n - i) i + 1) := by
  have key : ∀ f f' i, n - i ≤ f → n - i ≤ f' → runsL B n f i = runsL B n f' i := by
    intro f
    induction f with
    | zero => intro f' i h1 h2; rw [runsL_end _ _ _ _ (by omega), runsL_end _ _ _ _ (by omega)]
    | succ f ih =>
      intro f' i h1 h2
      by_cases hi : i < n
      · obtain ⟨g, rfl⟩ : ∃ g, f' = g + 1 := ⟨f' - 1, by omega⟩
        unfold runsL
        rw [if_pos hi, if_pos hi, ih g _ (by omega) (by omega)]
      · rw [runsL_end _ _ _ _ (by omega), runsL_end _ _ _ _ (by omega)]
  obtain ⟨g, rfl⟩ : ∃ g, f = g + 1 := ⟨f - 1, by omega⟩
  conv => lhs; unfold runsL
  rw [if_pos h, key g (g + 1) _ (by omega) (by omega)]
theorem runsL_pos (B : Nat → Nat) (n f i : Nat) : ∀ x ∈ runsL B n f i, 0 < x.2 ∧ x.1 + x.2 ≤ n := by
  induction f generalizing i with
  | zero => intro x hx; cases hx
  | succ f ih =>
    intro x hx
    unfold runsL at hx
    split at hx
    · rename_i hi
      rcases List.mem_append.1 hx with h | h
      · split at h
        · rename_i hp
          simp only [List.mem_singleton] at h
          subst h
          have := runF_le B (n - i) i
          exact ⟨hp, by dsimp only; omega⟩
        · cases h
      · exact ih _ x h
    · cases hx
/-- How many are free from a number on, of so many. -/
def cnt (B : Nat → Nat) : Nat → Nat → Nat
  | 0, _ => 0
  | k + 1, i => (if tk B i = true then 0 else 1) + cnt B k (i + 1)
def sumL : List (Nat × Nat) → Nat
  | [] => 0
  | x :: r => x.2 + sumL r
theorem sumL_append (a b : List (Nat × Nat)) : sumL (a ++ b) = sumL a + sumL b := by
  induction a with
  | nil => simp [sumL]
  | cons x a ih => simp only [List.cons_append, sumL, ih]; omega
theorem cnt_run (B : Nat → Nat) (k i : Nat) : cnt B k i = runF B k i + (if runF B k i < k then cnt B (k - runF B k i - 1) (i + runF B k i + 1) else 0) := by
  induction k generalizing i with
  | zero => simp [cnt, runF]
  | succ k ih =>
    by_cases ht : tk B i = true
    · have e : runF B (k + 1) i = 0 := by unfold runF; rw [if_pos ht]
      rw [e, if_pos (by omega)]
      simp [cnt, ht]
    · have e : runF B (k + 1) i = 1 + runF B k (i + 1) := by rw [runF, if_neg ht]
      rw [e]
      simp only [cnt, if_neg ht]
      rw [ih (i + 1)]
      have hl := runF_le B k (i + 1)
      by_cases hlt : runF B k (i + 1) < k
      · rw [if_pos hlt, if_pos (by omega), show k + 1 - (1 + runF B k (i + 1)) - 1 = k - runF B k (i + 1) - 1 by omega, show i + (1 + runF B k (i + 1)) + 1 = i + 1 + runF B k (i + 1) + 1 by omega]
        omega
      · rw [if_neg hlt, if_neg (by omega)]; omega
theorem sum_runs (B : Nat → Nat) (n f i : Nat) (hf : n - i ≤ f) : sumL (runsL B n f i) = cnt B (n - i) i := by
  induction f generalizing i with
  | zero => rw [runsL_end _ _ _ _ (by omega), show n - i = 0 by omega]; rfl
  | succ f ih =>
    by_cases hi : i < n
    · unfold runsL
      rw [if_pos hi, sumL_append, ih _ (by omega), cnt_run B (n - i) i]
      have hl := runF_le B (n - i) i
      have h1 : sumL (if 0 < runF B (n - i) i then [(i, runF B (n - i) i)] else []) = runF B (n - i) i := by
        split
        · simp [sumL]
        · simp [sumL]; omega
      rw [h1]
      by_cases hlt : runF B (n - i) i < n - i
      · rw [if_pos hlt, show n - (i + runF B (n - i) i + 1) = n - i - runF B (n - i) i - 1 by omega]
      · rw [if_neg hlt, show n - (i + runF B (n - i) i + 1) = 0 by omega]; rfl
    · rw [runsL_end _ _ _ _ (by omega), show n - i = 0 by omega]; rfl
theorem cnt_le (B : Nat → Nat) (k i : Nat) : cnt B k i ≤ k := by
  induction k generalizing i with
  | zero => exact Nat.le_refl _
  | succ k ih => have := ih (i + 1); unfold cnt; split <;> omega
theorem cnt_flip (B : Nat → Nat) (k i a : Nat) : cnt (flipB B a) k i + (if i ≤ a ∧ a < i + k ∧ tk B a = false then 1 else 0) = cnt B k i + (if i ≤ a ∧ a < i + k ∧ tk B a = true then 1 else 0) := by
  induction k generalizing i with
  | zero => rw [if_neg (by omega), if_neg (by omega)]; rfl
  | succ k ih =>
    have h := ih (i + 1)
    simp only [cnt]
    rw [tk_flip]
    by_cases hia : i = a
    · subst hia
      rw [if_neg (by omega), if_neg (by omega)] at h
      cases ht : tk B i
      · rw [if_pos rfl]; simp; omega
      · rw [if_pos rfl]; simp; omega
    · rw [if_neg hia]
      have e1 : (i ≤ a ∧ a < i + (k + 1) ∧ tk B a = false) = (i + 1 ≤ a ∧ a < i + 1 + k ∧ tk B a = false) := by apply propext; constructor <;> (rintro ⟨h1, h2, h3⟩; exact ⟨by omega, by omega, h3⟩)
      have e2 : (i ≤ a ∧ a < i + (k + 1) ∧ tk B a = true) = (i + 1 ≤ a ∧ a < i + 1 + k ∧ tk B a = true) := by apply propext; constructor <;> (rintro ⟨h1, h2, h3⟩; exact ⟨by omega, by omega, h3⟩)
      simp only [e1, e2]
      omega
theorem cnt_none (B : Nat → Nat) (k i : Nat) (h : ∀ j, tk B j = false) : cnt B k i = k := by
  induction k generalizing i with
  | zero => rfl
  | succ k ih => simp [cnt, h, ih]; omega

/-- The first run that is long enough. -/
def firstF (xs : List (Nat × Nat)) (m : Int) : Option Nat := (xs.find? (fun x => decide (m ≤ x.2))).map (·.1)
/-- The longest run so far, and then those that come. -/
def longF : List (Nat × Nat) → Nat × Nat → Nat × Nat
  | [], s => s
  | x :: r, s => longF r (if s.2 < x.2 then x else s)
theorem longF_append (a b : List (Nat × Nat)) (s : Nat × Nat) : longF (a ++ b) s = longF b (longF a s) := by
  induction a generalizing s with
  | nil => rfl
  | cons x a ih => simp only [List.cons_append, longF, ih]
theorem longF_ge (xs : List (Nat × Nat)) (s : Nat × Nat) : s.2 ≤ (longF xs s).2 ∧ ∀ x ∈ xs, x.2 ≤ (longF xs s).2 := by
  induction xs generalizing s with
  | nil => exact ⟨Nat.le_refl _, fun x h => by cases h⟩
  | cons y r ih =>
    simp only [longF]
    obtain ⟨h1, h2⟩ := ih (if s.2 < y.2 then y else s)
    have h3 : s.2 ≤ (if s.2 < y.2 then y else s).2 ∧ y.2 ≤ (if s.2 < y.2 then y else s).2 := by split <;> constructor <;> omega
    refine ⟨by omega, fun x hx => ?_⟩
    rcases List.mem_cons.1 hx with rfl | hx
    · omega
    · exact h2 x hx
theorem longF_first (xs : List (Nat × Nat)) (s : Nat × Nat) (h : s.2 < (longF xs s).2) : firstF xs (longF xs s).2 = some (longF xs s).1 := by
  induction xs generalizing s with
  | nil => exact absurd h (Nat.lt_irrefl _)
  | cons y r ih =>
    simp only [longF] at h ⊢
    by_cases hy : s.2 < y.2
    · rw [if_pos hy] at h ⊢
      by_cases hm : y.2 < (longF r y).2
      · have := ih y hm
        unfold firstF at this ⊢
        rw [List.find?_cons, show decide (((longF r y).2 : Int) ≤ y.2) = false by simp; omega]
        exact this
      · have he : (longF r y).2 = y.2 := by have := (longF_ge r y).1; omega
        have hl : longF r y = y := by
          have : ∀ (r : List (Nat × Nat)) (s : Nat × Nat), (longF r s).2 = s.2 → longF r s = s := by
            intro r
            induction r with
            | nil => intro s _; rfl
            | cons z r ih2 =>
              intro s hs
              simp only [longF] at hs ⊢
              have hg := (longF_ge r (if s.2 < z.2 then z else s)).1
              by_cases hz : s.2 < z.2
              · rw [if_pos hz] at hs hg; omega
              · rw [if_neg hz] at hs ⊢; exact ih2 s hs
          exact this r y he
        unfold firstF
        rw [hl, List.find?_cons, show decide ((y.2 : Int) ≤ y.2) = true by simp]
        rfl
    · rw [if_neg hy] at h ⊢
      have := ih s h
      unfold firstF at this ⊢
      rw [List.find?_cons, show decide (((longF r s).2 : Int) ≤ y.2) = false by simp; omega]
      exact this
theorem longF_none (xs : List (Nat × Nat)) (s : Nat × Nat) : firstF xs ((longF xs s).2 + 1) = none := by
  unfold firstF
  rw [List.find?_eq_none.2]
  · rfl
  · intro x hx
    have := (longF_ge xs s).2 x hx
    simp; omega
theorem longF_sum (xs : List (Nat × Nat)) (s : Nat × Nat) : (longF xs s).2 ≤ s.2 + sumL xs := by
  induction xs generalizing s with
  | nil => simp [longF, sumL]
  | cons y r ih =>
    simp only [longF, sumL]
    have := ih (if s.2 < y.2 then y else s)
    split at this <;> rename_i h
    · rw [if_pos h]; omega
    · rw [if_neg h]; omega
theorem longF_zero (xs : List (Nat × Nat)) (hp : ∀ x ∈ xs, 0 < x.2) (h : (longF xs (0, 0)).2 = 0) : xs = [] := by
  cases xs with
  | nil => rfl
  | cons y r =>
    have h1 := (longF_ge (y :: r) (0, 0)).2 y (List.mem_cons_self ..)
    have h2 := hp y (List.mem_cons_self ..)
    omega

end Go.Proofs.YtkflhakgfpiiaaaDoor.Bt
