/-
  The statement on the sum of any text, as a walk. Condition: the table of four steps holds what its initialiser lays.
-/
import Derived.Test.YtiaigboichmepabDoorSlKind
namespace Go.Proofs.YtiaigboichmepabDoor.Mk
open Go.ChangeShapes Go.WideShapes Go.ChangeAt Go.RowKit Go.Lib

set_option maxRecDepth 100000 in
set_option maxHeartbeats 1000000 in
theorem markSums_calls (s : ByteArray) (w : World) (hl : s.size ≤ maxLen) (hn : NibAt w) :
    Calls Tryd.prog 3 #[.string s] w fun e w' => e = .returned (.bool true) ∧ Below w.heap.size w w' := by
  have HN : Hid (NibAt w) := hn
  have HL : Hid (s.size ≤ maxLen) := hl
  clear hn hl
  by_cases hz : (2000 : Int) < s.size
  · go_enter Tryd.func3, Tryd.ntmps3
    go_wp2_with fail
    refine (speaks_any _ HN.out).mono ?_
    rintro e w1 ⟨rfl, hb⟩
    go_wp2
    go_ret
    exact ⟨rfl, hb⟩
  · go_enter Tryd.func3, Tryd.ntmps3
    go_wp2_with fail
    refine (speaks_any _ HN.out).mono ?_
    rintro e w1 ⟨rfl, hb⟩
    have HN1 : Hid (NibAt w1) := HN.out.below hb
    go_wp2_with fail
    refine (sum_any _ _ HL.out HN1.out).mono ?_
    rintro e w1 ⟨rfl, rfl⟩
    go_wp2_with fail
    refine (refsum_any _ _ HL.out).mono ?_
    rintro e w1 ⟨rfl, rfl⟩
    go_wp2
    go_ret
    exact ⟨rfl, hb⟩

end Go.Proofs.YtiaigboichmepabDoor.Mk
