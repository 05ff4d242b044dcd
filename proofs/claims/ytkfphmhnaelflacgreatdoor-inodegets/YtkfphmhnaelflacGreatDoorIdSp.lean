/-
  The first lines of layer 8's statements: two extents. No condition.
-/
import Derived.Test.YtkfphmhnaelflacGreatDoorIdItems
namespace Go.Proofs.YtkfphmhnaelflacGreatDoor.Id
open Go.ChangeShapes Go.WideShapes Go.ChangeAt Go.RowKit Go.Proofs.Fa

variable {w : World} {B : Nat}
set_option maxRecDepth 100000
set_option maxHeartbeats 1000000

/-- What Grow answers, where it has no error. -/
theorem GrowAt.yes {w w' : World} {ver : Int} {l : List Ext} {e : Ext} {r : Ending} (h : GrowAt w ver l e r w') (h0 : growE l e = 0) : ∃ a n c, r = .returned (.tuple #[.agg #[.int .i64 (ver + 1), .slice a n c], .nilIface]) ∧ n = (appF l e).length ∧ Row w' w.heap.size (.slice a n c) (appF l e) ∧ Below w.heap.size w w' := by
  obtain ⟨⟨ver', v', rfl, h1, _⟩, hb⟩ := h
  obtain ⟨rfl, hr⟩ := h1 h0
  obtain ⟨a, c, rfl, _⟩ := row_slice hr
  exact ⟨a, _, c, by rw [h0]; rfl, rfl, hr, hb⟩

theorem speaks_any (w : World) : Calls Tryz.prog 5 #[] w fun r w' => r = .returned (.bool true) ∧ Below w.heap.size w w' := by
  go_enter Tryz.func5, Tryz.ntmps5
  go_wp2_with fail
  refine (grow_any (w := w) (B := 0) 0 (.slice none 0 0) [] ⟨10, 2⟩ (World.ownsRow_nil _ _ _ _) (by decide) OkL.nil (by decide) (by decide)).mono ?_
  rintro r w1 hg
  obtain ⟨a1, n1, c1, rfl, hn1, hr1, hb1⟩ := hg.yes rfl
  have hn1' : n1 = 1 := hn1
  subst hn1'
  have HR1 : Hid (Row w1 w.heap.size (.slice a1 1 c1) [⟨10, 2⟩]) := hr1
  have HB1 : Hid (Below w.heap.size w w1) := hb1
  clear hg hn1 hr1 hb1
  have HX : (w1.alloc (Obj.cells #[.int .i64 1, .slice a1 1 c1] 26)).heap[w1.heap.size]? = some (.cells #[.int .i64 1, .slice a1 1 c1] 26 (0, 0)) := heap_alloc_new _ _
  have HB1' : Hid (Below w.heap.size w (w1.alloc (Obj.cells #[.int .i64 1, .slice a1 1 c1] 26))) := HB1.out.alloc HB1.out.size _
  have hok : OkL [⟨10, 2⟩] := by intro e he; simp only [List.mem_singleton] at he; subst he; unfold Ok; decide
  have hG2 := grow_any (w := w1.alloc (Obj.cells #[.int .i64 1, .slice a1 1 c1] 26)) (B := w.heap.size) 1 (.slice a1 1 c1) [⟨10, 2⟩] ⟨20, 3⟩ (World.ownsRow.alloc HR1.out _) (by decide) hok (by decide) (by decide)
  go_wp2_with fail
  refine hG2.mono ?_
  rintro r w2 hg
  obtain ⟨a2, n2, c2, rfl, hn2, hr2, hb2⟩ := hg.yes rfl
  have hn2' : n2 = 2 := hn2
  subst hn2'
  have HR2 : Hid (Row w2 (w1.heap.size + 1) (.slice a2 2 c2) [⟨10, 2⟩, ⟨20, 3⟩]) := by rw [World.size_alloc] at hr2; exact hr2
  have HB2 : Hid (Below w.heap.size w w2) := HB1'.out.trans (hb2.mono HB1'.out.size)
  clear hg hn2 hr2 hb2 HX HB1 HB1' HR1 hG2 hok
  have hok2 : OkL [⟨10, 2⟩, ⟨20, 3⟩] := by
    intro e he
    simp only [List.mem_cons, List.not_mem_nil, or_false] at he
    rcases he with rfl | rfl <;> (unfold Ok; decide)
  obtain ⟨w3, hw3⟩ : ∃ w3, w3 = w2.alloc (Obj.cells #[.int .i64 2, .slice a2 2 c2] 26) := ⟨_, rfl⟩
  have HX3 : Hid (w3.heap[w2.heap.size]? = some (.cells #[.int .i64 2, .slice a2 2 c2] 26 (0, 0))) := by rw [hw3]; exact heap_alloc_new _ _
  have HB3 : Hid (Below w.heap.size w w3) := by rw [hw3]; exact HB2.out.alloc HB2.out.size _
  have HR3 : Hid (Row w3 (w1.heap.size + 1) (.slice a2 2 c2) [⟨10, 2⟩, ⟨20, 3⟩]) := by rw [hw3]; exact World.ownsRow.alloc HR2.out _
  have hM := map_any (w := w3) 2 (.slice a2 2 c2) [⟨10, 2⟩, ⟨20, 3⟩] 3 HR3.out (by decide) hok2 (by decide)
  rw [show optV (mapG [⟨10, 2⟩, ⟨20, 3⟩] 3) = .tuple #[.int .i64 21, .bool true] from rfl] at hM
  go_wp2_with fail
  rw [← hw3]
  refine hM.mono ?_
  rintro r w4 ⟨rfl, hb4⟩
  have HX4 : Hid (w4.heap[w2.heap.size]? = some (.cells #[.int .i64 2, .slice a2 2 c2] 26 (0, 0))) := (hb4.block _ (lt_of_heap HX3.out)).trans HX3.out
  have HB4 : Hid (Below w.heap.size w w4) := HB3.out.trans (hb4.mono HB3.out.size)
  have HR4 : Hid (Row w4 (w1.heap.size + 1) (.slice a2 2 c2) [⟨10, 2⟩, ⟨20, 3⟩]) := row_below HR3.out hb4 (Nat.le_refl _)
  clear hb4 hw3 hM HX3 HB3 HR3 HR2 HB2
  have hM := block_any (w := w4) 2 (.slice a2 2 c2) [⟨10, 2⟩, ⟨20, 3⟩] 21 HR4.out (by decide) hok2 (by decide)
  rw [show optV (blockF [⟨10, 2⟩, ⟨20, 3⟩] 21 0) = .tuple #[.int .i64 3, .bool true] from rfl] at hM
  obtain ⟨x0, x1, x2, x3⟩ := agg2 HX4.out
  go_wp2_with fail
  refine hM.mono ?_
  rintro r w5 ⟨rfl, hb5⟩
  have HX5 : Hid (w5.heap[w2.heap.size]? = some (.cells #[.int .i64 2, .slice a2 2 c2] 26 (0, 0))) := (hb5.block _ (lt_of_heap HX4.out)).trans HX4.out
  have HB5 : Hid (Below w.heap.size w w5) := HB4.out.trans (hb5.mono HB4.out.size)
  have HR5 : Hid (Row w5 (w1.heap.size + 1) (.slice a2 2 c2) [⟨10, 2⟩, ⟨20, 3⟩]) := row_below HR4.out hb5 (Nat.le_refl _)
  clear hb5 hM HX4 HB4 HR4 x0 x1 x2 x3
  have hM := size_any (w := w5) 2 (.slice a2 2 c2) [⟨10, 2⟩, ⟨20, 3⟩] HR5.out (by decide) hok2
  rw [show sizeF [⟨10, 2⟩, ⟨20, 3⟩] = 5 from rfl] at hM
  obtain ⟨x0, x1, x2, x3⟩ := agg2 HX5.out
  go_wp2_with fail
  refine hM.mono ?_
  rintro r w6 ⟨rfl, hb6⟩
  have HX6 : w6.heap[w2.heap.size]? = some (.cells #[.int .i64 2, .slice a2 2 c2] 26 (0, 0)) := (hb6.block _ (lt_of_heap HX5.out)).trans HX5.out
  have HB6 : Hid (Below w.heap.size w w6) := HB5.out.trans (hb6.mono HB5.out.size)
  clear hb6 hM HX5 HB5 HR5 x0 x1 x2 x3
  obtain ⟨x0, x1, x2, x3⟩ := agg2 HX6
  clear HX6
  go_wp2
  go_ret
  exact ⟨rfl, HB6.out⟩

end Go.Proofs.YtkfphmhnaelflacGreatDoor.Id
