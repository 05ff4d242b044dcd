/-
  The first lines of layer 9's statements: a hundred sectors. No condition.
-/
import Derived.Test.YtadimbpgdihjlabDoorSuC
import Derived.Test.YtadimbpgdihjlabDoorLeM
namespace Go.Proofs.YtadimbpgdihjlabDoor.Su
open Go.ChangeShapes Go.WideShapes Go.ChangeAt Go.RowKit

set_option maxRecDepth 100000
set_option maxHeartbeats 1000000

theorem mask1023 (x : Int) : ∃ m : Int, bits .and .i64 x 1023 = m ∧ 0 ≤ m ∧ m ≤ 1023 :=
  ⟨x % 1024, Le.i64_and_mask x 10 (by decide), by omega, by omega⟩
theorem mask255 (x : Int) : ∃ m : Int, bits .and .i64 x 255 = m ∧ 0 ≤ m ∧ m ≤ 255 :=
  ⟨x % 256, Le.i64_and_mask x 8 (by decide), by omega, by omega⟩

theorem sp_right : RightP 100 20 := by unfold RightP; decide
theorem speaks_any (w : World) : Calls Tryd.prog 5 #[] w fun r w' => r = .returned (.bool true) ∧ Below w.heap.size w w' := by
  have hD := data_any 100 20 (w.alloc (.cells #[.int .i64 100, .int .i64 20] 26))
  have hR := fun w => right_any 100 20 w
  have hB := fun w => bits_any 100 20 w
  rw [show dataF 100 20 = .tuple #[.int .i64 26, .int .i64 74] by unfold dataF; rw [if_pos sp_right]; rfl] at hD
  simp only [show decide (RightP 100 20) = true from decide_eq_true sp_right] at hR
  simp only [show bitsF 100 20 = 21 from if_pos sp_right] at hB
  have HS : Hid (LayAt w.heap.size 100 20 (w.alloc (.cells #[.int .i64 100, .int .i64 20] 26))) := lay_new w 100 20 _
  have HB0 : Hid (Below w.heap.size w (w.alloc (.cells #[.int .i64 100, .int .i64 20] 26))) := (Below.refl _ _).alloc (Nat.le_refl _) _
  go_enter Tryd.func5, Tryd.ntmps5
  go_wp2_with fail
  refine hD.mono ?_
  rintro r w1 ⟨rfl, hb1⟩
  have HB1 : Hid (Below w.heap.size w w1) := HB0.out.trans (hb1.mono HB0.out.size)
  have HS1 : Hid (LayAt w.heap.size 100 20 w1) := HS.out.below hb1
  obtain ⟨c0, c1⟩ := HS1.out.cells
  clear hb1 hD HS HB0
  go_wp2_with fail
  refine (hR _).mono ?_
  rintro r w2 ⟨rfl, hb2⟩
  have HB2 : Hid (Below w.heap.size w w2) := HB1.out.trans (hb2.mono HB1.out.size)
  have HS2 : Hid (LayAt w.heap.size 100 20 w2) := HS1.out.below hb2
  clear c0 c1 hb2 hR HB1 HS1
  obtain ⟨c0, c1⟩ := HS2.out.cells
  go_wp2_with fail
  refine (hB _).mono ?_
  rintro r w3 ⟨rfl, hb3⟩
  have HB3 : Hid (Below w.heap.size w w3) := HB2.out.trans (hb3.mono HB2.out.size)
  clear hb3 hB
  go_wp2
  go_ret
  exact ⟨rfl, HB3.out⟩

end Go.Proofs.YtadimbpgdihjlabDoor.Su
