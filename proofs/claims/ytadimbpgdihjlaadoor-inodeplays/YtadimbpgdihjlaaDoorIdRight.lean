/-
  The document's Right answers; where it says yes, all extents lie below 2048. No condition.
-/
import Derived.Test.YtadimbpgdihjlaaDoorIdSec
namespace Go.Proofs.YtadimbpgdihjlaaDoor.Id
open Go.ChangeShapes Go.WideShapes Go.ChangeAt Go.RowKit Go.Proofs.Fa

variable {w : World} {B : Nat}
set_option maxRecDepth 100000
set_option maxHeartbeats 1000000

/-- What the document's Right answers. -/
def RightAt (l : List Ext) (r : Ending) : Prop := ∃ t : Bool, r = .returned (.bool t) ∧ (t = true → OkL l ∧ l.length ≤ 36)

end Go.Proofs.YtadimbpgdihjlaaDoor.Id
