/-
  Nothing that holds: what the law answers. No condition.
-/
import Derived.Test.YtmapaplpoogpfaaHdSp
import Derived.Test.YtmapaplpoogpfaaHdE
namespace Go.Proofs.Ytmapaplpoogpfaa.Hd
open Go.ChangeShapes Go.WideShapes Go.ChangeAt Go.RowKit Go.Proofs.Fa

set_option maxRecDepth 100000
set_option maxHeartbeats 2000000

theorem holdNil_calls (x : Int) (w : World) (_ : (Lit.int .i64 x).wf = true) :
    Calls Try.prog 6 #[.int .i64 x] w fun e w' => e = .returned (.bool true) ∧ Below w.heap.size w w' := by
  go_enter Try.func6, Try.ntmps6
  go_wp2_with fail
  refine (Hds.speaks_any w).mono ?_
  rintro e w1 ⟨rfl, hb1⟩
  have HB1 : Hid (Below w.heap.size w w1) := hb1
  clear hb1
  go_wp2_with fail
  refine (Hdi.enter_nil w1).mono ?_
  rintro e w2 ⟨rfl, rfl⟩
  go_wp2_with fail
  refine (Hdi.leave_nil x _).mono ?_
  rintro e w3 ⟨rfl, hb3⟩
  have HB3 : Hid (Below w.heap.size w w3) := HB1.out.trans (hb3.mono HB1.out.size)
  clear hb3
  go_wp2_with fail
  refine (Hdi.drop_nil _ _).mono ?_
  rintro e w4 ⟨rfl, rfl⟩
  go_wp2_with fail
  refine (Hdi.held_nil _).mono ?_
  rintro e w5 ⟨rfl, rfl⟩
  go_wp2_with fail
  refine (Hdi.has_nil x _).mono ?_
  rintro e w6 ⟨rfl, hb6⟩
  have HB4 : Hid (Below w.heap.size w (w3.alloc (Obj.cells #[.int .i64 x] 3))) := HB3.out.alloc HB3.out.size _
  have HB6 : Hid (Below w.heap.size w w6) := HB4.out.trans (hb6.mono HB4.out.size)
  clear hb6
  go_wp2_with fail
  refine (Hdi.count_nil _).mono ?_
  rintro e w7 ⟨rfl, rfl⟩
  go_wp2
  go_ret
  exact ⟨rfl, HB6.out⟩

end Go.Proofs.Ytmapaplpoogpfaa.Hd
