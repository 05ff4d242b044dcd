/-
  The number of an error of layer 20, as its statements ask it. Condition: errors.errorType holds its handle.
-/
import Derived.Test.YtncjlcgndhodmabDoorFaNumber
namespace Go.Proofs.YtncjlcgndhodmabDoor.Rn
open Go.ChangeShapes Go.WideShapes Go.ChangeAt Go.RowKit
open Go.Proofs.YtncjlcgndhodmabDoor.As (ErrT)

set_option maxRecDepth 100000
set_option maxHeartbeats 1000000
theorem num_some (e : Int) (w : World) (hE : ErrT w) : Calls Tryd.prog 10 #[.iface 49 (.int .i64 e)] w fun r w' => r = .returned (.int .i64 e) ∧ Below w.heap.size w w' := by
  have hN := (Fa.Number_any (some (some e)) (by simp) [] 49 (.int .i64 e) w (by simp) rfl hE)
  go_enter Tryd.func10, Tryd.ntmps10
  go_wp2_with fail
  refine hN.mono ?_
  rintro r w1 ⟨rfl, hb⟩
  go_wp2
  go_ret
  exact ⟨rfl, hb⟩

end Go.Proofs.YtncjlcgndhodmabDoor.Rn
