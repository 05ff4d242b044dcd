/-
  What the rows' listed variables give the walks of layer 3's statements: the table of four steps, cell by cell. No condition.
-/
import Derived.Test.YtkfphmhnaelflacGreatDoorSlSum
import Derived.Test.YtkfphmhnaelflacGreatDoorLdVar
namespace Go.Proofs.YtkfphmhnaelflacGreatDoor.Laid
open Go.ChangeShapes Go.WideShapes Go.ChangeAt Go.RowKit

theorem ownK : ownKnob Tryz.prog.godebug = none := by kernel_rfl

open Go.Proofs.YtkfphmhnaelflacGreatDoor.Mk (NibAt tabL tabN) in
theorem nib_of {W : World} {n : String} {l : List (String × DataW Unit)} {i : Nat} (hm : l[i]? = some (n, Rows.laid_posthorse_mark_nibbles)) (hg : Tryz.prog.globalNamed n = some 0) (h : laidMetH Tryz.prog l W) : NibAt W := by
  intro r hr
  have := laid_ints (k := .u32) (zs := tabL.map fun x : Nat => (x : Int)) (len := 16) (t := 109) (e := 72) hm hg (by kernel_rfl) Tryz.underlying109 Tryz.underlying72 (by kernel_rfl) (by kernel_rfl) h r hr
  rw [this]
  have e : (tabL.map fun x : Nat => (x : Int)).getD r 0 = ((tabN r : Nat) : Int) := by
    unfold tabN
    rw [List.getD_eq_getElem?_getD, List.getElem?_map, List.getD_eq_getElem?_getD]
    cases tabL[r]? <;> rfl
  rw [e]

end Go.Proofs.YtkfphmhnaelflacGreatDoor.Laid
