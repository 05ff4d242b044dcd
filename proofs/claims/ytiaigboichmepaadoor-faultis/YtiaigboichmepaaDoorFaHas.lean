/-
  Has a document's node a fault of a kind? No condition.
-/
import Derived.Test.YtiaigboichmepaaDoorFaNums
namespace Go.Proofs.YtiaigboichmepaaDoor.Fa
open Go.ChangeShapes Go.WideShapes Go.ChangeAt Go.RowKit Go.Proofs.Fa

set_option maxRecDepth 100000
set_option maxHeartbeats 4000000
theorem has_base (m : Int) (op : ByteArray) (n : Int) (w : World) : Calls Tryd.prog 17 #[.agg #[.int .i64 3, .int .i64 0, .int .i64 m, .string ⟨#[]⟩, .slice none 0 0], .string op, .int .i64 n] w fun e w' => e = .returned (.bool false) ∧ Below w.heap.size w w' := by
  go_enter Tryd.func17, Tryd.ntmps17
  go_wp2
  refine wp_loop_rounds 1 ?_
  rw [rounds_succ]
  go_wp2
  go_ret
  exact ⟨rfl, (Below.refl _ _).alloc (Nat.le_refl _) _⟩

theorem has_any (m : Int) (nb : Nat) (op : ByteArray) (n : Int) : ∀ (l : List Layer) (c0 c1 c2 c3 c4 : Value) (w : World), NodeAt w nb m l [c0, c1, c2, c3, c4] →
    Calls Tryd.prog 17 #[.agg #[c0, c1, c2, c3, c4], .string op, .int .i64 n] w fun e w' => e = .returned (.bool (isK op n l)) ∧ Below w.heap.size w w'
  | [], c0, c1, c2, c3, c4, w, h => by
    have h' : [c0, c1, c2, c3, c4] = numNode m := h
    simp only [numNode, List.cons.injEq, and_true] at h'
    obtain ⟨rfl, rfl, rfl, rfl, rfl⟩ := h'
    exact has_base m op n w
  | y :: r, c0, c1, c2, c3, c4, w, h => by
    have IH := has_any m nb op n r
    obtain ⟨g, d0, d1, d2, d3, d4, hg, hr, h⟩ := h
    obtain ⟨f0, f1, f2, f3, s4, x4, y4, hcs⟩ := hr.five
    simp only [List.cons.injEq, and_true] at hcs
    obtain ⟨rfl, rfl, rfl, rfl, rfl⟩ := hcs
    rcases h with ⟨hj, hc, hh⟩ | ⟨hj, hc, hh⟩
    · have hN : isK op n (y :: r) = isK op n r := if_pos hj
      rw [hN]
      simp only [List.cons.injEq, and_true] at hc
      obtain ⟨rfl, rfl, rfl, rfl, rfl⟩ := hc
      obtain ⟨w1, hw1⟩ : ∃ w1, w1 = w.alloc (Obj.cells #[.int .i64 2, .int .i64 0, .int .i64 0, .string ⟨#[]⟩, .slice (some ⟨g, 0, none⟩) 2 2] 28) := ⟨_, rfl⟩
      have hb1 : Below w.heap.size w w1 := by rw [hw1]; exact (Below.refl _ _).alloc (Nat.le_refl _) _
      have HB1 : Hid (Below w.heap.size w w1) := hb1
      have HIH : Hid (Calls Tryd.prog 17 #[.agg #[.int .i64 f0, .int .i64 f1, .int .i64 f2, .string f3, .slice s4 x4 y4], .string op, .int .i64 n] w1 fun e w' => e = .returned (.bool (isK op n r)) ∧ Below w1.heap.size w1 w') := IH _ _ _ _ _ w1 (NodeAt.but (Nat.le_refl _) (But.below hb1) hr)
      have hh1 := (hb1.block g (lt_of_heap hh)).trans hh
      have HHG : Hid (w1.heap[g]? = _) := hh1
      have e0 := cell_of_heap hh1 0 _ rfl
      have e1 := cell_of_heap hh1 1 _ rfl
      have e2 := cell_of_heap hh1 2 _ rfl
      have e3 := cell_of_heap hh1 3 _ rfl
      have e4 := cell_of_heap hh1 4 _ rfl
      have hbx := heap_alloc_new w (Obj.cells #[.int .i64 2, .int .i64 0, .int .i64 0, .string ⟨#[]⟩, .slice (some ⟨g, 0, none⟩) 2 2] 28)
      rw [← hw1] at hbx
      have HBX : Hid (w1.heap[w.heap.size]? = _) := hbx
      have b0 := cell_of_heap hbx 0 _ rfl
      have b4 := cell_of_heap hbx 4 _ rfl
      clear IH hr hh hh1 hb1 hbx hN hj
      go_enter Tryd.func17, Tryd.ntmps17
      go_wp2_with fail
      rw [← hw1]
      clear hw1
      go_wp2_with fail
      refine wp_loop_rounds 3 ?_
      rw [rounds_succ]
      go_wp2_with fail
      refine HIH.out.mono ?_
      rintro e w2 ⟨rfl, hb2⟩
      have HB2 : Hid (Below w.heap.size w w2) := HB1.out.trans (hb2.mono HB1.out.size)
      have hbx2 := (hb2.block _ (lt_of_heap HBX.out)).trans HBX.out
      have hg2 := (hb2.block _ (lt_of_heap HHG.out)).trans HHG.out
      have HBX2 : Hid (w2.heap[w.heap.size]? = _) := hbx2
      have a4 := cell_of_heap hbx2 4 _ rfl
      have e5 : w2.cell? ⟨g, 5, none⟩ = some (.int .i64 3) := cell_of_heap hg2 5 _ rfl
      have e6 : w2.cell? ⟨g, 6, none⟩ = some (.int .i64 0) := cell_of_heap hg2 6 _ rfl
      have e7 : w2.cell? ⟨g, 7, none⟩ = some (.int .i64 y.k) := cell_of_heap hg2 7 _ rfl
      have e8 : w2.cell? ⟨g, 8, none⟩ = some (.string ⟨#[]⟩) := cell_of_heap hg2 8 _ rfl
      have e9 : w2.cell? ⟨g, 9, none⟩ = some (.slice none 0 0) := cell_of_heap hg2 9 _ rfl
      clear hb2 hbx2 hg2 e0 e1 e2 e3 e4 b0 b4
      cases hir : isK op n r with
      | true =>
        have HIR : Hid (isK op n r = true) := hir
        clear hir
        go_wp2
        go_ret
        exact ⟨by rw [HIR.out]; rfl, HB2.out⟩
      | false =>
        have HIR : Hid (isK op n r = false) := hir
        clear hir
        go_wp2_with fail
        rw [rounds_succ]
        go_wp2_with fail
        refine (has_base y.k op n w2).mono ?_
        rintro e w3 ⟨rfl, hb3⟩
        have HB3 : Hid (Below w.heap.size w w3) := HB2.out.trans (hb3.mono HB2.out.size)
        have hbx3 := (hb3.block _ (lt_of_heap HBX2.out)).trans HBX2.out
        have b4 := cell_of_heap hbx3 4 _ rfl
        clear hb3 hbx3
        go_wp2_with fail
        rw [rounds_succ]
        go_wp2
        go_ret
        exact ⟨by rw [HIR.out]; rfl, HB3.out⟩
    · have hN : isK op n (y :: r) = (kindOf op n y.op y.pos || isK op n r) := if_neg (by rw [hj]; decide)
      rw [hN]
      simp only [List.cons.injEq, and_true] at hc
      obtain ⟨rfl, rfl, rfl, rfl, rfl⟩ := hc
      obtain ⟨w1, hw1⟩ : ∃ w1, w1 = w.alloc (Obj.cells #[.int .i64 1, .int .i64 y.pos, .int .i64 0, .string y.op, .slice (some ⟨g, 0, none⟩) 1 1] 28) := ⟨_, rfl⟩
      have hb1 : Below w.heap.size w w1 := by rw [hw1]; exact (Below.refl _ _).alloc (Nat.le_refl _) _
      have HB1 : Hid (Below w.heap.size w w1) := hb1
      have HIH : Hid (Calls Tryd.prog 17 #[.agg #[.int .i64 f0, .int .i64 f1, .int .i64 f2, .string f3, .slice s4 x4 y4], .string op, .int .i64 n] w1 fun e w' => e = .returned (.bool (isK op n r)) ∧ Below w1.heap.size w1 w') := IH _ _ _ _ _ w1 (NodeAt.but (Nat.le_refl _) (But.below hb1) hr)
      have hh1 := (hb1.block g (lt_of_heap hh)).trans hh
      have e0 := cell_of_heap hh1 0 _ rfl
      have e1 := cell_of_heap hh1 1 _ rfl
      have e2 := cell_of_heap hh1 2 _ rfl
      have e3 := cell_of_heap hh1 3 _ rfl
      have e4 := cell_of_heap hh1 4 _ rfl
      have hbx := heap_alloc_new w (Obj.cells #[.int .i64 1, .int .i64 y.pos, .int .i64 0, .string y.op, .slice (some ⟨g, 0, none⟩) 1 1] 28)
      rw [← hw1] at hbx
      have HBX : Hid (w1.heap[w.heap.size]? = _) := hbx
      have b0 := cell_of_heap hbx 0 _ rfl
      have b1 := cell_of_heap hbx 1 _ rfl
      have b3 := cell_of_heap hbx 3 _ rfl
      have b4 := cell_of_heap hbx 4 _ rfl
      have HKD : Hid (kindOf op n y.op y.pos = ((op.toList.isEmpty || op.toList == y.op.toList) && (n == -1 || n == y.pos))) := rfl
      clear IH hr hh hh1 hb1 hbx hN hj
      cases q1 : op.toList.isEmpty <;> cases q2 : (op.toList == y.op.toList) <;> cases q3 : (n == -1) <;> cases q4 : (n == y.pos)
      all_goals
        rw [q1, q2, q3, q4] at HKD
        go_enter Tryd.func17, Tryd.ntmps17
        first
        | (have HK1 : Hid (kindOf op n y.op y.pos = true) := HKD.out
           clear HKD
           go_wp2
           go_ret
           exact ⟨by rw [HK1.out]; rfl, (Below.refl _ _).alloc (Nat.le_refl _) _⟩)
        | (have HK0 : Hid (kindOf op n y.op y.pos = false) := HKD.out
           clear HKD
           go_wp2_with fail
           rw [← hw1]
           clear hw1
           refine wp_loop_rounds 2 ?_
           rw [rounds_succ]
           go_wp2_with fail
           refine HIH.out.mono ?_
           rintro e w2 ⟨rfl, hb2⟩
           have HB2 : Hid (Below w.heap.size w w2) := HB1.out.trans (hb2.mono HB1.out.size)
           have hbx2 := (hb2.block _ (lt_of_heap HBX.out)).trans HBX.out
           have a4 := cell_of_heap hbx2 4 _ rfl
           clear hb2 hbx2 e0 e1 e2 e3 e4 b0 b1 b3 b4
           cases hir : isK op n r with
           | true =>
             have HIR : Hid (isK op n r = true) := hir
             clear hir
             go_wp2
             go_ret
             exact ⟨by rw [HK0.out, HIR.out]; rfl, HB2.out⟩
           | false =>
             have HIR : Hid (isK op n r = false) := hir
             clear hir
             go_wp2_with fail
             rw [rounds_succ]
             go_wp2
             go_ret
             exact ⟨by rw [HK0.out, HIR.out]; rfl, HB2.out⟩)

end Go.Proofs.YtiaigboichmepaaDoor.Fa
