/-
  Layer 18's numbers: the cap, and what of it rises. No condition. Nothing of the program.
-/
import Derived.WalkKit
namespace Go.Proofs.YtncjlcgndhodmabDoor.Sn

/-- The nearest number that there may be. -/
def capF (n : Int) : Int := if n < -1099511627776 then -1099511627776 else if 1099511627776 < n then 1099511627776 else n
/-- The nearest number from one to another. -/
def nearF (n f t : Int) : Int := if t < (if n < f then f else n) then t else (if n < f then f else n)

/-- The lesser, the greater of two, as the walk shows them. -/
def mnF (a b : Int) : Int := if b < a then b else a
def mxF (a b : Int) : Int := if a < b then b else a
theorem lt_or_le (x y : Int) : x < y ∨ y ≤ x := by omega
theorem capF_lo (n : Int) : -1099511627776 ≤ capF n := by unfold capF; split; omega; split <;> omega
theorem capF_hi (n : Int) : capF n ≤ 1099511627776 := by unfold capF; split; omega; split <;> omega
theorem capF_mono {m n : Int} (h : m ≤ n) : capF m ≤ capF n := by unfold capF; split <;> split <;> (try split) <;> (try split) <;> omega
theorem capF_id {n : Int} (h1 : -1099511627776 ≤ n) (h2 : n ≤ 1099511627776) : capF n = n := by unfold capF; rw [if_neg (by omega), if_neg (by omega)]
theorem nearF_cap (n : Int) : nearF n (-1099511627776) 1099511627776 = capF n := by
  unfold nearF capF
  split <;> split <;> (try split) <;> (try split) <;> omega
theorem nearF_mono {m n f t : Int} (h : m ≤ n) : nearF m f t ≤ nearF n f t := by
  unfold nearF
  repeat' split
  all_goals omega

/-- What a span times a number has. -/
theorem mul_mono {x y n : Int} (h : x ≤ y) (hn : 0 ≤ n) : x * n ≤ y * n := Int.mul_le_mul_of_nonneg_right h hn
theorem mul_anti {x y n : Int} (h : x ≤ y) (hn : n ≤ 0) : y * n ≤ x * n := Int.mul_le_mul_of_nonpos_right h hn

/-- The number that is told of a product beforehand. -/
theorem abs_le_div {x n : Int} (hn : n ≠ 0) : (x.natAbs : Int) ≤ 1099511627776 / (n.natAbs : Int) ↔ (x * n).natAbs ≤ 1099511627776 := by
  have hp : (0 : Int) < (n.natAbs : Int) := by omega
  rw [Int.le_ediv_iff_mul_le hp, Int.natAbs_mul, ← Int.natCast_mul]
  omega
theorem cap_of_abs {x : Int} (h : x.natAbs ≤ 1099511627776) : capF x = x := capF_id (by omega) (by omega)
theorem cap_neg {x n : Int} (h : ¬ (x * n).natAbs ≤ 1099511627776) (hs : (decide (x < 0) != decide (n < 0)) = true) : capF (x * n) = -1099511627776 := by
  have h0 : x * n < 0 := by
    rcases lt_or_le x 0 with hx | hx <;> rcases lt_or_le n 0 with hn | hn
    · simp [hx, hn] at hs
    · rcases lt_or_le 0 n with hn' | hn'
      · exact Int.mul_neg_of_neg_of_pos hx hn'
      · obtain rfl : n = 0 := by omega
        simp at h
    · rcases lt_or_le 0 x with hx' | hx'
      · exact Int.mul_neg_of_pos_of_neg hx' hn
      · obtain rfl : x = 0 := by omega
        simp at h
    · have h1 : ¬ x < 0 := by omega
      have h2 : ¬ n < 0 := by omega
      simp [h1, h2] at hs
  unfold capF
  rw [if_pos (by omega)]
theorem cap_pos {x n : Int} (h : ¬ (x * n).natAbs ≤ 1099511627776) (hs : (decide (x < 0) != decide (n < 0)) = false) : capF (x * n) = 1099511627776 := by
  have h0 : 0 ≤ x * n := by
    rcases lt_or_le x 0 with hx | hx <;> rcases lt_or_le n 0 with hn | hn
    · exact Int.le_of_lt (Int.mul_pos_of_neg_of_neg hx hn)
    · have h2 : ¬ n < 0 := by omega
      simp [hx, h2] at hs
    · have h1 : ¬ x < 0 := by omega
      simp [h1, hn] at hs
    · exact Int.mul_nonneg hx hn
  unfold capF
  rw [if_neg (by omega), if_pos (by omega)]

/-- Times by hand: of the numbers without their signs. -/
def topF (k : Nat) : Nat := if 1099511627776 < k then 1099511627776 else k
theorem cap_top {x n : Int} : capF (x * n) = if (decide (x < 0) != decide (n < 0)) = true then -(topF (x.natAbs * n.natAbs) : Int) else (topF (x.natAbs * n.natAbs) : Int) := by
  have hk : x.natAbs * n.natAbs = (x * n).natAbs := (Int.natAbs_mul x n).symm
  rw [hk]
  unfold topF
  by_cases h : (x * n).natAbs ≤ 1099511627776
  · rw [cap_of_abs h, if_neg (show ¬ 1099511627776 < (x * n).natAbs by omega)]
    rcases lt_or_le x 0 with hx | hx <;> rcases lt_or_le n 0 with hn | hn
    · have := Int.mul_pos_of_neg_of_neg hx hn
      simp [hx, hn]; omega
    · have h2 : ¬ n < 0 := by omega
      have : x * n ≤ 0 := Int.mul_nonpos_of_nonpos_of_nonneg (by omega) hn
      simp [hx, h2]; omega
    · have h1 : ¬ x < 0 := by omega
      have : x * n ≤ 0 := Int.mul_nonpos_of_nonneg_of_nonpos hx (by omega)
      simp [h1, hn]; omega
    · have h1 : ¬ x < 0 := by omega
      have h2 : ¬ n < 0 := by omega
      have := Int.mul_nonneg hx hn
      simp [h1, h2]; omega
  · rw [if_pos (show 1099511627776 < (x * n).natAbs by omega)]
    cases hs : (decide (x < 0) != decide (n < 0))
    · rw [cap_pos h hs]; simp
    · rw [cap_neg h hs]; simp

end Go.Proofs.YtncjlcgndhodmabDoor.Sn
