/-
  A new set. No condition.
-/
import Derived.Test.YtkflhakgfpiiaaaDoorBtF
namespace Go.Proofs.YtkflhakgfpiiaaaDoor.Bt
open Go.ChangeShapes Go.WideShapes Go.ChangeAt Go.RowKit

set_option maxRecDepth 100000
set_option maxHeartbeats 1000000

theorem zero_eq : Tryd.zeroCells60 = #[.int .i64 0] ++ Array.replicate 504 (.int .u8 0) := by kernel_rfl
theorem newC_ok (n : Nat) (hn : n ≤ 4000) : SetC (Tryd.zeroCells60.setIfInBounds 0 (.int .i64 n)) n (fun _ => 0) := by
  have hz : Tryd.zeroCells60.size = 505 := by rw [zero_eq]; simp
  refine ⟨by rw [Array.size_setIfInBounds, hz], ?_, ?_, fun _ => by decide, hn⟩
  · rw [Array.getElem?_setIfInBounds_self_of_lt (by rw [hz]; decide)]
  · intro j hj
    rw [Array.getElem?_setIfInBounds_ne (by omega), zero_eq, Array.getElem?_append_right (by simp)]
    rw [Array.getElem?_replicate, if_pos (by simp; omega)]
    rfl

theorem new_no (n : Int) (w : World) (h : (decide (1 ≤ n) && decide (n ≤ 4000)) = false) : Calls Tryd.prog 9 #[.int .i64 n] w fun r w' => r = .returned (.tuple #[.pointer none, errV 1]) ∧ w' = w := by
  have hb := isBound_any n w
  rw [h] at hb
  go_enter Tryd.func9, Tryd.ntmps9
  go_wp2_with fail
  refine hb.mono ?_
  rintro r w1 ⟨rfl, rfl⟩
  go_wp2
  go_ret2
  exact ⟨rfl, rfl⟩

theorem new_yes (n : Nat) (w : World) (h : (decide (1 ≤ (n : Int)) && decide ((n : Int) ≤ 4000)) = true) : Calls Tryd.prog 9 #[.int .i64 n] w fun r w' => r = .returned (.tuple #[.pointer (some ⟨w.heap.size, 0, none⟩), .nilIface]) ∧ ∃ c, SetC c n (fun _ => 0) ∧ w' = w.alloc (.cells c 60) := by
  have HC := newC_ok n (by simp only [Bool.and_eq_true, decide_eq_true_eq] at h; omega)
  generalize hgc : Tryd.zeroCells60.setIfInBounds 0 (.int .i64 n) = cc at HC
  have hb := isBound_any n w
  rw [h] at hb
  go_enter Tryd.func9, Tryd.ntmps9
  go_wp2_with fail
  refine hb.mono ?_
  rintro r w1 ⟨rfl, rfl⟩
  clear hb h
  go_wp2
  go_ret2
  exact ⟨rfl, cc, HC, rfl⟩

end Go.Proofs.YtkflhakgfpiiaaaDoor.Bt
