/-
  What the rows' listed variables give the walks of layer 3's statements: the table of four steps, cell by cell. No condition.
-/
import Derived.Test.YtadimbpgdihjlaaDoorSlSum
import Derived.Test.YtadimbpgdihjlaaDoorLdVar
namespace Go.Proofs.YtadimbpgdihjlaaDoor.Laid
open Go.ChangeShapes Go.WideShapes Go.ChangeAt Go.RowKit

theorem ownK : ownKnob Tryd.prog.godebug = none := by kernel_rfl

open Go.Proofs.YtadimbpgdihjlaaDoor.Mk (NibAt tabL tabN) in
theorem nib_of {W : World} {n : String} {l : List (String × DataW Unit)} {i : Nat} (hm : l[i]? = some (n, Rows.laid_posthorse_mark_nibbles)) (hg : Tryd.prog.globalNamed n = some 1) (h : laidMetH Tryd.prog l W) : NibAt W := by
  intro r hr
  have := laid_ints (k := .u32) (zs := tabL.map fun x : Nat => (x : Int)) (len := 16) (t := 146) (e := 104) hm hg (by kernel_rfl) Tryd.underlying146 Tryd.underlying104 (by kernel_rfl) (by kernel_rfl) h r hr
  rw [this]
  have e : (tabL.map fun x : Nat => (x : Int)).getD r 0 = ((tabN r : Nat) : Int) := by
    unfold tabN
    rw [List.getD_eq_getElem?_getD, List.getElem?_map, List.getD_eq_getElem?_getD]
    cases tabL[r]? <;> rfl
  rw [e]

end Go.Proofs.YtadimbpgdihjlaaDoor.Laid
