/-
  The number of an error of layer 17, as its statements ask it. Condition: errors.errorType holds its handle.
-/
import Derived.Test.YtielliiadacbbaaDoorLeIn
import Derived.Test.YtielliiadacbbaaDoorFaNumber
namespace Go.Proofs.YtielliiadacbbaaDoor.Cd
open Go.ChangeShapes Go.WideShapes Go.ChangeAt Go.RowKit
open Go.Proofs.YtielliiadacbbaaDoor.As (ErrT)
open Go.Proofs.YtielliiadacbbaaDoor.Le (errV)

theorem number_err (e : Int) (w : World) (hE : ErrT w) : Calls Tryd.prog 20 #[errV e] w fun r w' => r = .returned (.int .i64 e) ∧ Below w.heap.size w w' := by
  by_cases he : e = 0
  · subst he; exact Fa.Number_nil w
  · rw [show errV e = .iface 48 (.int .i64 e) by unfold errV; rw [if_neg he]]
    exact (Fa.Number_any (some (some e)) (by simp) [] 48 (.int .i64 e) w (by simp) rfl hE).mono fun r w' h => h

set_option maxRecDepth 100000
set_option maxHeartbeats 1000000
theorem num_err (e : Int) (w : World) (hE : ErrT w) : Calls Tryd.prog 11 #[errV e] w fun r w' => r = .returned (.int .i64 e) ∧ Below w.heap.size w w' := by
  have hN := number_err e w hE
  generalize errV e = v at hN
  go_enter Tryd.func11, Tryd.ntmps11
  go_wp2_with fail
  refine hN.mono ?_
  rintro r w1 ⟨rfl, hb⟩
  go_wp2
  go_ret
  exact ⟨rfl, hb⟩

end Go.Proofs.YtielliiadacbbaaDoor.Cd
