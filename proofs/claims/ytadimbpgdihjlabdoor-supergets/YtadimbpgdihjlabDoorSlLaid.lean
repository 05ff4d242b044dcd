/-
  What the rows' listed variables give the walks of layer 3's statements: the table of four steps, cell by cell. No condition.
-/
import Derived.Test.YtadimbpgdihjlabDoorSlSum
import Derived.Test.YtadimbpgdihjlabDoorLdVar
namespace Go.Proofs.YtadimbpgdihjlabDoor.Laid
open Go.ChangeShapes Go.WideShapes Go.ChangeAt Go.RowKit

theorem ownK : ownKnob Tryd.prog.godebug = none := by kernel_rfl

open Go.Proofs.YtadimbpgdihjlabDoor.Mk (NibAt tabL tabN) in
theorem nib_of {W : World} {n : String} {l : List (String × DataW Unit)} {i : Nat} (hm : l[i]? = some (n, Rows.laid_posthorse_mark_nibbles)) (hg : Tryd.prog.globalNamed n = some 0) (h : laidMetH Tryd.prog l W) : NibAt W := by
  intro r hr
  have := laid_ints (k := .u32) (zs := tabL.map fun x : Nat => (x : Int)) (len := 16) (t := 94) (e := 46) hm hg (by kernel_rfl) Tryd.underlying94 Tryd.underlying46 (by kernel_rfl) (by kernel_rfl) h r hr
  rw [this]
  have e : (tabL.map fun x : Nat => (x : Int)).getD r 0 = ((tabN r : Nat) : Int) := by
    unfold tabN
    rw [List.getD_eq_getElem?_getD, List.getElem?_map, List.getD_eq_getElem?_getD]
    cases tabL[r]? <;> rfl
  rw [e]

end Go.Proofs.YtadimbpgdihjlabDoor.Laid
