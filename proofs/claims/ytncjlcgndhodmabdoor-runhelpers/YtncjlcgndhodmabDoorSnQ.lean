/-
  Layer 18's product: the cap of it. No condition.
-/
import Derived.Test.YtncjlcgndhodmabDoorSnM
namespace Go.Proofs.YtncjlcgndhodmabDoor.Sn
open Go.ChangeShapes Go.WideShapes Go.ChangeAt Go.RowKit

set_option maxRecDepth 100000
set_option maxHeartbeats 1000000

theorem product_any (x n : Int) (w : World) (hx : -1099511627776 ≤ x ∧ x ≤ 1099511627776) (hn : -2147483648 ≤ n ∧ n ≤ 2147483648) :
    Calls Tryd.prog 46 #[.int .i64 x, .int .i64 n] w fun r w' => r = .returned (.int .i64 (capF (x * n))) ∧ w' = w := by
  by_cases h0 : n = 0
  · subst h0
    have hm : x * 0 = 0 := Int.mul_zero x
    go_enter Tryd.func46, Tryd.ntmps46
    go_wp2
    go_ret
    exact ⟨by rw [hm]; rfl, rfl⟩
  · have hb0 : (n == 0) = false := by rw [beq_eq_false_iff_ne]; exact h0
    have hk := abs_le_div (x := x) h0
    have HX := fun w => abs_any x w (by omega) (by omega)
    have HN := fun w => abs_any n w (by omega) (by omega)
    have hnz : ((n.natAbs : Int) == 0) = false := by rw [beq_eq_false_iff_ne]; omega
    have hdw : wrap64 (1099511627776 / (n.natAbs : Int)) = 1099511627776 / (n.natAbs : Int) := by
      have h1 : (0 : Int) ≤ 1099511627776 / (n.natAbs : Int) := Int.ediv_nonneg (by decide) (by omega)
      have h2 : (1099511627776 : Int) / (n.natAbs : Int) ≤ 1099511627776 := Int.ediv_le_self _ (by decide)
      generalize (1099511627776 : Int) / (n.natAbs : Int) = q at h1 h2
      unfold wrap64; omega
    go_enter Tryd.func46, Tryd.ntmps46
    go_wp2_with fail
    refine (HX _).mono ?_
    rintro r w1 ⟨rfl, hw1⟩
    subst hw1
    go_wp2_with fail
    refine (HN _).mono ?_
    rintro r w2 ⟨rfl, hw2⟩
    subst hw2
    by_cases hle : (x * n).natAbs ≤ 1099511627776
    · have hd := decide_eq_true (hk.2 hle)
      have hw : IntKind.i64.wrap (x * n) = x * n := IntWalk.i64_in _ (by generalize x * n = p at *; omega)
      have HE : Hid (capF (x * n) = x * n) := cap_of_abs hle
      clear hk hle HX HN
      go_wp2
      go_ret
      exact ⟨by rw [HE.out]; rfl, rfl⟩
    · have hd := decide_eq_false (mt hk.1 hle)
      have hbx : (decide (x < 0) != decide (n < 0)) = (!decide (x < 0) == decide (n < 0)) := by cases decide (x < 0) <;> cases decide (n < 0) <;> rfl
      cases hs : (!decide (x < 0) == decide (n < 0))
      · have HE : Hid (capF (x * n) = 1099511627776) := cap_pos hle (hbx.trans hs)
        clear hk hle HX HN hbx
        go_wp2
        go_ret
        exact ⟨by rw [HE.out]; rfl, rfl⟩
      · have HE : Hid (capF (x * n) = -1099511627776) := cap_neg hle (hbx.trans hs)
        clear hk hle HX HN hbx
        go_wp2
        go_ret
        exact ⟨by rw [HE.out]; rfl, rfl⟩


end Go.Proofs.YtncjlcgndhodmabDoor.Sn
