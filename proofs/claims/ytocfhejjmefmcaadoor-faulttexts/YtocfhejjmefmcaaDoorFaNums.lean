/-
  The document's numbers of a node, and whether it has a fault of a kind. No condition.
-/
import Derived.Test.YtocfhejjmefmcaaDoorFaMadeM
import Derived.Test.YtocfhejjmefmcaaDoorFaIs4
namespace Go.Proofs.YtocfhejjmefmcaaDoor.Fa
open Go.ChangeShapes Go.WideShapes Go.ChangeAt Go.RowKit Go.Proofs.Fa

/-- The numbers of an error, in order. -/
def numsOf (m : Int) : List Layer → List Int
  | [] => [m]
  | y :: r => if y.join = true then numsOf m r ++ [y.k] else numsOf m r
theorem numsOf_len (m : Int) (l : List Layer) : 1 ≤ (numsOf m l).length ∧ (numsOf m l).length ≤ l.length + 1 := by
  induction l with
  | nil => simp [numsOf]
  | cons y r ih =>
    unfold numsOf
    split
    · simp; omega
    · simp; omega
theorem isN_nums (m k : Int) (l : List Layer) : isN m k l = (numsOf m l).any (fun x => x == k) := by
  induction l with
  | nil => simp [isN, numsOf]
  | cons y r ih =>
    by_cases h : y.join = true
    · simp [isN, numsOf, h, ih, List.any_append]
    · simp [isN, numsOf, h, ih]

def icells (xs : List Int) : List Value := xs.map (Value.int .i64)
theorem info_int : (Tryd.prog.info? 3).map (fun i => (i.zero, i.size, i.bytes)) = some (some (.int .i64 0), 1, 8) := by kernel_rfl

/-- What Numbers leaves. -/
def NumsAt (w : World) (xs : List Int) (e : Ending) (w' : World) : Prop := ∃ v, e = .returned v ∧ w'.ownsRow w.heap.size 3 1 v xs.length (icells xs) ∧ Below w.heap.size w w'

theorem own_one {w : World} {B b : Nat} {n : Int} (hB : B ≤ b) (h : w.heap[b]? = some (.cells #[.int .i64 n] 3 (0, 0))) : w.ownsRow B 3 1 (.slice (some ⟨b, 0, none⟩) 1 1) 1 [.int .i64 n] :=
  ⟨rfl, .inr ⟨b, 1, _, rfl, hB, h, Nat.le_refl _, by decide, rfl, rfl⟩⟩

theorem own_src {w : World} {B n : Nat} {v : Value} {xs : List Value} (h : w.ownsRow B 3 1 v n xs) (hn : 1 ≤ n) : ∃ g cap, v = .slice (some ⟨g, 0, none⟩) n cap ∧ ∀ j u, xs[j]? = some u → w.cell? ((⟨g, 0, none⟩ : Addr).add j) = some u := by
  rcases h.2 with ⟨_, h0⟩ | ⟨g, cap, cur, rfl, _⟩
  · omega
  · exact ⟨g, cap, rfl, h.cells (g := g) rfl⟩

set_option maxRecDepth 100000
set_option maxHeartbeats 4000000
theorem nums_base (n : Int) (w : World) : Calls Tryd.prog 15 #[.agg #[.int .i64 3, .int .i64 0, .int .i64 n, .string ⟨#[]⟩, .slice none 0 0]] w fun e w' => NumsAt w [n] e w' := by
  go_enter Tryd.func15, Tryd.ntmps15
  go_wp2
  go_ret
  refine ⟨_, rfl, own_one (b := w.heap.size + 1) (by omega) ?_, ((Below.refl _ _).alloc (Nat.le_refl _) _).alloc (by simp) _⟩
  have := heap_alloc_new (w.alloc (Obj.cells #[.int .i64 3, .int .i64 0, .int .i64 n, .string ⟨#[]⟩, .slice none 0 0] 28)) (Obj.cells #[.int .i64 n] 3)
  rw [World.size_alloc] at this
  exact this

theorem nums_any (m : Int) (nb : Nat) : ∀ (l : List Layer) (c0 c1 c2 c3 c4 : Value) (w : World), l.length ≤ 1000 → NodeAt w nb m l [c0, c1, c2, c3, c4] →
    Calls Tryd.prog 15 #[.agg #[c0, c1, c2, c3, c4]] w fun e w' => NumsAt w (numsOf m l) e w'
  | [], c0, c1, c2, c3, c4, w, _, h => by
    have h' : [c0, c1, c2, c3, c4] = numNode m := h
    simp only [numNode, List.cons.injEq, and_true] at h'
    obtain ⟨rfl, rfl, rfl, rfl, rfl⟩ := h'
    exact nums_base m w
  | y :: r, c0, c1, c2, c3, c4, w, hl, h => by
    have IH := nums_any m nb r
    obtain ⟨g, d0, d1, d2, d3, d4, hg, hr, h⟩ := h
    obtain ⟨f0, f1, f2, f3, s4, x4, y4, hcs⟩ := hr.five
    simp only [List.cons.injEq, and_true] at hcs
    obtain ⟨rfl, rfl, rfl, rfl, rfl⟩ := hcs
    obtain ⟨i0, hi, hz0, hz1, hz2⟩ := info_parts info_int
    have hll := numsOf_len m r
    have hl' : r.length ≤ 1000 := by simp at hl; omega
    rcases h with ⟨hj, hc, hh⟩ | ⟨hj, hc, hh⟩
    · have hN : numsOf m (y :: r) = numsOf m r ++ [y.k] := if_pos hj
      rw [hN]
      simp only [List.cons.injEq, and_true] at hc
      obtain ⟨rfl, rfl, rfl, rfl, rfl⟩ := hc
      obtain ⟨w1, hw1⟩ : ∃ w1, w1 = w.alloc (Obj.cells #[.int .i64 2, .int .i64 0, .int .i64 0, .string ⟨#[]⟩, .slice (some ⟨g, 0, none⟩) 2 2] 28) := ⟨_, rfl⟩
      have hb1 : Below w.heap.size w w1 := by rw [hw1]; exact (Below.refl _ _).alloc (Nat.le_refl _) _
      have HB1 : Hid (Below w.heap.size w w1) := hb1
      have HIH : Hid (Calls Tryd.prog 15 #[.agg #[.int .i64 f0, .int .i64 f1, .int .i64 f2, .string f3, .slice s4 x4 y4]] w1 fun e w' => NumsAt w1 (numsOf m r) e w') := IH _ _ _ _ _ w1 hl' (NodeAt.but (Nat.le_refl _) (But.below hb1) hr)
      have hh1 := (hb1.block g (lt_of_heap hh)).trans hh
      have e0 := cell_of_heap hh1 0 _ rfl
      have e1 := cell_of_heap hh1 1 _ rfl
      have e2 := cell_of_heap hh1 2 _ rfl
      have e3 := cell_of_heap hh1 3 _ rfl
      have e4 := cell_of_heap hh1 4 _ rfl
      have hbx := heap_alloc_new w (Obj.cells #[.int .i64 2, .int .i64 0, .int .i64 0, .string ⟨#[]⟩, .slice (some ⟨g, 0, none⟩) 2 2] 28)
      rw [← hw1] at hbx
      have HBX : Hid (w1.heap[w.heap.size]? = _) := hbx
      have b0 := cell_of_heap hbx 0 _ rfl
      have b4 := cell_of_heap hbx 4 _ rfl
      have HHG : Hid (w1.heap[g]? = _) := hh1
      clear IH hr hh hh1 hb1 hbx hN hj
      go_enter Tryd.func15, Tryd.ntmps15
      go_wp2_with fail
      rw [← hw1]
      clear hw1
      go_wp2_with fail
      refine wp_loop_rounds 3 ?_
      rw [rounds_succ]
      go_wp2_with fail
      refine HIH.out.mono ?_
      rintro e w2 ⟨v, rfl, hown, hb2⟩
      obtain ⟨q, cq, rfl, hsrc⟩ := own_src hown hll.1
      have HB2 : Hid (Below w.heap.size w w2) := HB1.out.trans (hb2.mono HB1.out.size)
      have HBX2 : Hid (w2.heap[w.heap.size]? = _) := (hb2.block _ (lt_of_heap HBX.out)).trans HBX.out
      have hz2' : w.heap.size ≤ w2.heap.size := HB2.out.size
      have HHG2 : Hid (w2.heap[g]? = _) := (hb2.block _ (lt_of_heap HHG.out)).trans HHG.out
      have HO : Hid (w2.ownsRow w.heap.size 3 1 (.slice none 0 0) 0 []) := World.ownsRow_nil _ _ _ _
      clear hown hb2 e0 e1 e2 e3 e4 b0 b4
      go_wp2_with (at_builtin; refine wpList_append_near _ rfl _ _ 38 rfl w.heap.size 3 i0 _ 1 8 Tryd.underlying38 hi hz0 hz1 hz2 rfl (by decide) _ _ _ rfl HO.out ⟨q, 0, none⟩ (numsOf m r).length cq (icells (numsOf m r)) rfl (by simp [icells]) hsrc (by simp [icells, Value.oneCell']) (by unfold maxLen; omega) (by omega) hz2' ?_; intro v' w3 hown' hgrow _hn)
      have HG3 : Hid (Below w.heap.size w w3) := HB2.out.grown hgrow hz2' (fun k e => by cases e)
      have hbx3 := (hgrow.block w.heap.size (lt_of_heap HBX2.out) (by intro h; cases h)).trans HBX2.out
      have HBX3 : Hid (w3.heap[w.heap.size]? = _) := hbx3
      have b4 := cell_of_heap hbx3 4 _ rfl
      have hg3 := (hgrow.block g (lt_of_heap HHG2.out) (by intro h; cases h)).trans HHG2.out
      have e5 : w3.cell? ⟨g, 5, none⟩ = some (.int .i64 3) := cell_of_heap hg3 5 _ rfl
      have e6 : w3.cell? ⟨g, 6, none⟩ = some (.int .i64 0) := cell_of_heap hg3 6 _ rfl
      have e7 : w3.cell? ⟨g, 7, none⟩ = some (.int .i64 y.k) := cell_of_heap hg3 7 _ rfl
      have e8 : w3.cell? ⟨g, 8, none⟩ = some (.string ⟨#[]⟩) := cell_of_heap hg3 8 _ rfl
      have e9 : w3.cell? ⟨g, 9, none⟩ = some (.slice none 0 0) := cell_of_heap hg3 9 _ rfl
      have HO3 : Hid (w3.ownsRow w.heap.size 3 1 v' (0 + (numsOf m r).length) ([] ++ icells (numsOf m r))) := hown'
      clear hgrow hown' _hn hbx3 hg3 hsrc
      go_wp2_with fail
      rw [rounds_succ]
      go_wp2_with fail
      refine (nums_base y.k w3).mono ?_
      rintro e w4 ⟨v4, rfl, hown4, hb4⟩
      obtain ⟨q4, cq4, rfl, hsrc4⟩ := own_src hown4 (by simp)
      have HB4 : Hid (Below w.heap.size w w4) := HG3.out.trans (hb4.mono HG3.out.size)
      have hz4' : w.heap.size ≤ w4.heap.size := HB4.out.size
      have HBX4 : Hid (w4.heap[w.heap.size]? = _) := (hb4.block _ (lt_of_heap HBX3.out)).trans HBX3.out
      have HO4 : Hid (w4.ownsRow w.heap.size 3 1 v' (0 + (numsOf m r).length) ([] ++ icells (numsOf m r))) := by
        refine ⟨HO3.out.1, ?_⟩
        rcases HO3.out.2 with h | ⟨g', cap', cur, rfl, hbg, hg', rest⟩
        · exact .inl h
        · exact .inr ⟨g', cap', cur, rfl, hbg, by rw [hb4.block g' (lt_of_heap hg')]; exact hg', rest⟩
      have hnb : v'.ownBlock ≠ some w.heap.size := by
        intro hx
        rcases HO4.out.2 with ⟨rfl, _⟩ | ⟨g', cap', cur, rfl, _, hg', _⟩
        · simp [Value.ownBlock] at hx
        · simp [Value.ownBlock] at hx
          subst hx
          rw [HBX4.out] at hg'
          simp at hg'
      clear hown4 hb4 e5 e6 e7 e8 e9 b4
      go_wp2_with (at_builtin; refine wpList_append_near _ rfl _ _ 38 rfl w.heap.size 3 i0 _ 1 8 Tryd.underlying38 hi hz0 hz1 hz2 rfl (by decide) _ _ _ rfl HO4.out ⟨q4, 0, none⟩ 1 cq4 (icells [y.k]) rfl rfl hsrc4 (by simp [icells, Value.oneCell']) (by unfold maxLen; omega) (by omega) hz4' ?_; intro v5 w5 hown5 hgrow5 _hn5)
      have HG5 : Hid (Below w.heap.size w w5) := HB4.out.grown hgrow5 hz4' (fun k e => own_block HO4.out k e)
      have hbx5 := (hgrow5.block w.heap.size (lt_of_heap HBX4.out) (fun h => hnb h.symm)).trans HBX4.out
      have b4 := cell_of_heap hbx5 4 _ rfl
      have HO5 : Hid (w5.ownsRow w.heap.size 3 1 v5 (0 + (numsOf m r).length + 1) ([] ++ icells (numsOf m r) ++ icells [y.k])) := hown5
      clear hgrow5 hown5 _hn5 hbx5 hnb
      go_wp2_with fail
      rw [rounds_succ]
      go_wp2
      go_ret
      refine ⟨_, rfl, ?_, HG5.out⟩
      have h5 := HO5.out
      rw [Nat.zero_add, List.nil_append] at h5
      rw [List.length_append]
      unfold icells at h5 ⊢
      rw [List.map_append]
      exact h5
    · have hN : numsOf m (y :: r) = numsOf m r := if_neg (by rw [hj]; decide)
      rw [hN]
      simp only [List.cons.injEq, and_true] at hc
      obtain ⟨rfl, rfl, rfl, rfl, rfl⟩ := hc
      obtain ⟨w1, hw1⟩ : ∃ w1, w1 = w.alloc (Obj.cells #[.int .i64 1, .int .i64 y.pos, .int .i64 0, .string y.op, .slice (some ⟨g, 0, none⟩) 1 1] 28) := ⟨_, rfl⟩
      have hb1 : Below w.heap.size w w1 := by rw [hw1]; exact (Below.refl _ _).alloc (Nat.le_refl _) _
      have HB1 : Hid (Below w.heap.size w w1) := hb1
      have HIH : Hid (Calls Tryd.prog 15 #[.agg #[.int .i64 f0, .int .i64 f1, .int .i64 f2, .string f3, .slice s4 x4 y4]] w1 fun e w' => NumsAt w1 (numsOf m r) e w') := IH _ _ _ _ _ w1 hl' (NodeAt.but (Nat.le_refl _) (But.below hb1) hr)
      have hh1 := (hb1.block g (lt_of_heap hh)).trans hh
      have e0 := cell_of_heap hh1 0 _ rfl
      have e1 := cell_of_heap hh1 1 _ rfl
      have e2 := cell_of_heap hh1 2 _ rfl
      have e3 := cell_of_heap hh1 3 _ rfl
      have e4 := cell_of_heap hh1 4 _ rfl
      have hbx := heap_alloc_new w (Obj.cells #[.int .i64 1, .int .i64 y.pos, .int .i64 0, .string y.op, .slice (some ⟨g, 0, none⟩) 1 1] 28)
      rw [← hw1] at hbx
      have HBX : Hid (w1.heap[w.heap.size]? = _) := hbx
      have b0 := cell_of_heap hbx 0 _ rfl
      have b4 := cell_of_heap hbx 4 _ rfl
      clear IH hr hh hh1 hb1 hbx hN hj
      go_enter Tryd.func15, Tryd.ntmps15
      go_wp2_with fail
      rw [← hw1]
      clear hw1
      go_wp2_with fail
      refine wp_loop_rounds 2 ?_
      rw [rounds_succ]
      go_wp2_with fail
      refine HIH.out.mono ?_
      rintro e w2 ⟨v, rfl, hown, hb2⟩
      obtain ⟨q, cq, rfl, hsrc⟩ := own_src hown hll.1
      have HB2 : Hid (Below w.heap.size w w2) := HB1.out.trans (hb2.mono HB1.out.size)
      have HBX2 : Hid (w2.heap[w.heap.size]? = _) := (hb2.block _ (lt_of_heap HBX.out)).trans HBX.out
      have hz2' : w.heap.size ≤ w2.heap.size := HB2.out.size
      have HO : Hid (w2.ownsRow w.heap.size 3 1 (.slice none 0 0) 0 []) := World.ownsRow_nil _ _ _ _
      clear hown hb2 e0 e1 e2 e3 e4 b0 b4
      go_wp2_with (at_builtin; refine wpList_append_near _ rfl _ _ 38 rfl w.heap.size 3 i0 _ 1 8 Tryd.underlying38 hi hz0 hz1 hz2 rfl (by decide) _ _ _ rfl HO.out ⟨q, 0, none⟩ (numsOf m r).length cq (icells (numsOf m r)) rfl (by simp [icells]) hsrc (by simp [icells, Value.oneCell']) (by unfold maxLen; omega) (by omega) hz2' ?_; intro v' w3 hown' hgrow _hn)
      have HG3 : Hid (Below w.heap.size w w3) := HB2.out.grown hgrow hz2' (fun k e => by cases e)
      have hbx3 := (hgrow.block w.heap.size (lt_of_heap HBX2.out) (by intro h; cases h)).trans HBX2.out
      have b4 := cell_of_heap hbx3 4 _ rfl
      have HO3 : Hid (w3.ownsRow w.heap.size 3 1 v' (0 + (numsOf m r).length) ([] ++ icells (numsOf m r))) := hown'
      clear hgrow hown' _hn hbx3
      go_wp2_with fail
      rw [rounds_succ]
      go_wp2
      go_ret
      exact ⟨_, rfl, by have := HO3.out; rw [Nat.zero_add, List.nil_append] at this; exact this, HG3.out⟩

end Go.Proofs.YtocfhejjmefmcaaDoor.Fa
