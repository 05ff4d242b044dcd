/-
  The document's operations of a node. No condition.
-/
import Derived.Test.YtocfhejjmefmcaaDoorFaNums
import Derived.Laws.AppendOwnNone
namespace Go.Proofs.YtocfhejjmefmcaaDoor.Fa
open Go.ChangeShapes Go.WideShapes Go.ChangeAt Go.RowKit Go.Proofs.Fa

/-- The operations of an error, in order. -/
def opsOf : List Layer → List ByteArray
  | [] => []
  | y :: r => if y.join = true then opsOf r else y.op :: opsOf r
theorem opsOf_len (l : List Layer) : (opsOf l).length ≤ l.length := by
  induction l with
  | nil => simp [opsOf]
  | cons y r ih =>
    unfold opsOf
    split
    · simp; omega
    · simp; omega
def scells (xs : List ByteArray) : List Value := xs.map Value.string
theorem info_str : (Tryd.prog.info? 9).map (fun i => (i.zero, i.size, i.bytes)) = some (some (.string ⟨#[]⟩), 1, 16) := by kernel_rfl

/-- append of a row of one's own, whether it is nil or not. -/
theorem wpList_append_row {P : Program} (w : World) {ops : Array Oper} {rest : List Oper} {o : Oper} {a : Act} {Q : Exit → Act → World → Prop} (hgd : o.guard = none) (s x : Operand) (t : TypeId)
    (ho : o.op = .call { callee := .builtin .append, args := #[s, x], argTypes := #[t, t] })
    (base base2 : Nat) (e : TypeId) (i : TypeInfo) (z : Value) (bytes : Nat) (ht : P.underlying t = some (.slice e)) (hi : P.info? e = some i) (hz : i.zero = some z)
    (hsize : i.size = 1) (hby : i.bytes = bytes) (hzs : z.cells.size = 1)
    (v : Value) (n : Nat) (xs : List Value) (hs : a.eval s = v) (hown : w.ownsRow base e 1 v n xs)
    (v2 : Value) (m : Nat) (news : List Value) (hx : a.eval x = v2) (hown2 : w.ownsRow base2 e 1 v2 m news) (h1 : ∀ u ∈ news, u.oneCell' = true)
    (h63 : n + m ≤ maxLen) (hbytes : (n + m) * bytes ≤ 140737488355328) (hbase : base ≤ w.heap.size)
    (h : ∀ v' w', w'.ownsRow base e 1 v' (n + m) (xs ++ news) → w.grownBy w' v.ownBlock → wpList P ops Q rest (a.put o.dst v') w') : wpList P ops Q (o :: rest) a w := by
  rcases hown2.2 with ⟨rfl, rfl⟩ | ⟨g, cap, cur, rfl, _⟩
  · have hn : news = [] := List.eq_nil_of_length_eq_zero (by simpa using hown2.1)
    subst hn
    refine wpList_append_own_none hgd s x t ho base e i 1 ht hi v n xs hs hown hx (h v w ?_ ⟨rfl, rfl, rfl, Nat.le_refl _, fun _ _ _ => rfl⟩)
    rw [Nat.add_zero, List.append_nil]; exact hown
  · exact wpList_append_near w hgd s x t ho base e i z 1 bytes ht hi hz hsize hby hzs (by decide) v n xs hs hown ⟨g, 0, none⟩ m cap news hx (by simpa using hown2.1) (hown2.cells (g := g) rfl) h1 h63 hbytes hbase (fun v' w' h2 h3 _ => h v' w' h2 h3)

/-- What Ops leaves. -/
def OpsAt (w : World) (xs : List ByteArray) (e : Ending) (w' : World) : Prop := ∃ v, e = .returned v ∧ w'.ownsRow w.heap.size 9 1 v xs.length (scells xs) ∧ Below w.heap.size w w'

set_option maxRecDepth 100000
set_option maxHeartbeats 4000000
theorem refops_base (n : Int) (w : World) : Calls Tryd.prog 11 #[.agg #[.int .i64 3, .int .i64 0, .int .i64 n, .string ⟨#[]⟩, .slice none 0 0]] w fun e w' => e = .returned (.slice none 0 0) ∧ Below w.heap.size w w' := by
  go_enter Tryd.func11, Tryd.ntmps11
  go_wp2
  refine wp_loop_rounds 1 ?_
  rw [rounds_succ]
  go_wp2
  go_ret
  exact ⟨rfl, (Below.refl _ _).alloc (Nat.le_refl _) _⟩

theorem refops_any (m : Int) (nb : Nat) : ∀ (l : List Layer) (c0 c1 c2 c3 c4 : Value) (w : World), l.length ≤ 1000 → NodeAt w nb m l [c0, c1, c2, c3, c4] →
    Calls Tryd.prog 11 #[.agg #[c0, c1, c2, c3, c4]] w fun e w' => OpsAt w (opsOf l) e w'
  | [], c0, c1, c2, c3, c4, w, _, h => by
    have h' : [c0, c1, c2, c3, c4] = numNode m := h
    simp only [numNode, List.cons.injEq, and_true] at h'
    obtain ⟨rfl, rfl, rfl, rfl, rfl⟩ := h'
    refine (refops_base m w).mono ?_
    rintro e w' ⟨rfl, hb⟩
    exact ⟨_, rfl, World.ownsRow_nil _ _ _ _, hb⟩
  | y :: r, c0, c1, c2, c3, c4, w, hl, h => by
    have IH := refops_any m nb r
    obtain ⟨g, d0, d1, d2, d3, d4, hg, hr, h⟩ := h
    obtain ⟨f0, f1, f2, f3, s4, x4, y4, hcs⟩ := hr.five
    simp only [List.cons.injEq, and_true] at hcs
    obtain ⟨rfl, rfl, rfl, rfl, rfl⟩ := hcs
    obtain ⟨i0, hi, hz0, hz1, hz2⟩ := info_parts info_str
    have hll := opsOf_len r
    have hl' : r.length ≤ 1000 := by simp at hl; omega
    have hone : ∀ u ∈ scells (opsOf r), u.oneCell' = true := by intro u hu; obtain ⟨x, _, rfl⟩ := List.mem_map.1 hu; rfl
    rcases h with ⟨hj, hc, hh⟩ | ⟨hj, hc, hh⟩
    · have hN : opsOf (y :: r) = opsOf r := if_pos hj
      rw [hN]
      simp only [List.cons.injEq, and_true] at hc
      obtain ⟨rfl, rfl, rfl, rfl, rfl⟩ := hc
      obtain ⟨w1, hw1⟩ : ∃ w1, w1 = w.alloc (Obj.cells #[.int .i64 2, .int .i64 0, .int .i64 0, .string ⟨#[]⟩, .slice (some ⟨g, 0, none⟩) 2 2] 28) := ⟨_, rfl⟩
      have hb1 : Below w.heap.size w w1 := by rw [hw1]; exact (Below.refl _ _).alloc (Nat.le_refl _) _
      have HB1 : Hid (Below w.heap.size w w1) := hb1
      have HIH : Hid (∀ W : World, Below w1.heap.size w1 W → Calls Tryd.prog 11 #[.agg #[.int .i64 f0, .int .i64 f1, .int .i64 f2, .string f3, .slice s4 x4 y4]] W fun e w' => OpsAt W (opsOf r) e w') := fun W hW => IH _ _ _ _ _ W hl' (NodeAt.but (Nat.le_refl _) (But.below hW) (NodeAt.but (Nat.le_refl _) (But.below hb1) hr))
      have hh1 := (hb1.block g (lt_of_heap hh)).trans hh
      have HHG : Hid (w1.heap[g]? = _) := hh1
      have e0 := cell_of_heap hh1 0 _ rfl
      have e1 := cell_of_heap hh1 1 _ rfl
      have e2 := cell_of_heap hh1 2 _ rfl
      have e3 := cell_of_heap hh1 3 _ rfl
      have e4 := cell_of_heap hh1 4 _ rfl
      have hbx := heap_alloc_new w (Obj.cells #[.int .i64 2, .int .i64 0, .int .i64 0, .string ⟨#[]⟩, .slice (some ⟨g, 0, none⟩) 2 2] 28)
      rw [← hw1] at hbx
      have HBX : Hid (w1.heap[w.heap.size]? = _) := hbx
      have b0 := cell_of_heap hbx 0 _ rfl
      have b4 := cell_of_heap hbx 4 _ rfl
      clear IH hr hh hh1 hb1 hbx hN hj
      go_enter Tryd.func11, Tryd.ntmps11
      go_wp2_with fail
      rw [← hw1]
      clear hw1
      go_wp2_with fail
      refine wp_loop_rounds 3 ?_
      rw [rounds_succ]
      go_wp2_with fail
      refine (HIH.out w1 (Below.refl _ _)).mono ?_
      rintro e w2 ⟨v, rfl, hown, hb2⟩
      have HB2 : Hid (Below w.heap.size w w2) := HB1.out.trans (hb2.mono HB1.out.size)
      have HBX2 : Hid (w2.heap[w.heap.size]? = _) := (hb2.block _ (lt_of_heap HBX.out)).trans HBX.out
      have HHG2 : Hid (w2.heap[g]? = _) := (hb2.block _ (lt_of_heap HHG.out)).trans HHG.out
      have hz2' : w.heap.size ≤ w2.heap.size := HB2.out.size
      have HO : Hid (w2.ownsRow w.heap.size 9 1 (.slice none 0 0) 0 []) := World.ownsRow_nil _ _ _ _
      have HV : Hid (w2.ownsRow w1.heap.size 9 1 v (opsOf r).length (scells (opsOf r))) := hown
      clear hown hb2 e0 e1 e2 e3 e4 b0 b4
      go_wp2_with (at_builtin; refine wpList_append_row _ rfl _ _ 31 rfl w.heap.size w1.heap.size 9 i0 _ 16 Tryd.underlying31 hi hz0 hz1 hz2 rfl _ _ _ rfl HO.out _ _ _ rfl HV.out hone (by unfold maxLen; omega) (by omega) hz2' ?_; intro v' w3 hown' hgrow)
      have HG3 : Hid (Below w.heap.size w w3) := HB2.out.grown hgrow hz2' (fun k e => by cases e)
      have hbx3 := (hgrow.block w.heap.size (lt_of_heap HBX2.out) (by intro h; cases h)).trans HBX2.out
      have HBX3 : Hid (w3.heap[w.heap.size]? = _) := hbx3
      have b4 := cell_of_heap hbx3 4 _ rfl
      have hg3 := (hgrow.block g (lt_of_heap HHG2.out) (by intro h; cases h)).trans HHG2.out
      have e5 : w3.cell? ⟨g, 5, none⟩ = some (.int .i64 3) := cell_of_heap hg3 5 _ rfl
      have e6 : w3.cell? ⟨g, 6, none⟩ = some (.int .i64 0) := cell_of_heap hg3 6 _ rfl
      have e7 : w3.cell? ⟨g, 7, none⟩ = some (.int .i64 y.k) := cell_of_heap hg3 7 _ rfl
      have e8 : w3.cell? ⟨g, 8, none⟩ = some (.string ⟨#[]⟩) := cell_of_heap hg3 8 _ rfl
      have e9 : w3.cell? ⟨g, 9, none⟩ = some (.slice none 0 0) := cell_of_heap hg3 9 _ rfl
      have HO3 : Hid (w3.ownsRow w.heap.size 9 1 v' (0 + (opsOf r).length) ([] ++ scells (opsOf r))) := hown'
      clear hgrow hown' hbx3 hg3
      go_wp2_with fail
      rw [rounds_succ]
      go_wp2_with fail
      refine (refops_base y.k w3).mono ?_
      rintro e w4 ⟨rfl, hb4⟩
      have HB4 : Hid (Below w.heap.size w w4) := HG3.out.trans (hb4.mono HG3.out.size)
      have hbx4 := (hb4.block _ (lt_of_heap HBX3.out)).trans HBX3.out
      have a4 := cell_of_heap hbx4 4 _ rfl
      have HO4 : Hid (w4.ownsRow w.heap.size 9 1 v' (0 + (opsOf r).length) ([] ++ scells (opsOf r))) := by
        refine ⟨HO3.out.1, ?_⟩
        rcases HO3.out.2 with h | ⟨g', cap', cur, rfl, hbg, hg', rest⟩
        · exact .inl h
        · exact .inr ⟨g', cap', cur, rfl, hbg, by rw [hb4.block g' (lt_of_heap hg')]; exact hg', rest⟩
      clear hb4 hbx4 e5 e6 e7 e8 e9 b4
      go_wp2_with (at_builtin; refine wpList_append_own_none rfl _ _ 31 rfl w.heap.size 9 i0 1 Tryd.underlying31 hi _ _ _ rfl HO4.out rfl ?_)
      go_wp2_with fail
      rw [rounds_succ]
      go_wp2
      go_ret
      exact ⟨_, rfl, by have := HO4.out; rw [Nat.zero_add, List.nil_append] at this; exact this, HB4.out⟩
    · have hN : opsOf (y :: r) = y.op :: opsOf r := if_neg (by rw [hj]; decide)
      rw [hN]
      simp only [List.cons.injEq, and_true] at hc
      obtain ⟨rfl, rfl, rfl, rfl, rfl⟩ := hc
      obtain ⟨w1, hw1⟩ : ∃ w1, w1 = w.alloc (Obj.cells #[.int .i64 1, .int .i64 y.pos, .int .i64 0, .string y.op, .slice (some ⟨g, 0, none⟩) 1 1] 28) := ⟨_, rfl⟩
      have hb1 : Below w.heap.size w w1 := by rw [hw1]; exact (Below.refl _ _).alloc (Nat.le_refl _) _
      have HB1 : Hid (Below w.heap.size w w1) := hb1
      have HIH : Hid (∀ W : World, Below w1.heap.size w1 W → Calls Tryd.prog 11 #[.agg #[.int .i64 f0, .int .i64 f1, .int .i64 f2, .string f3, .slice s4 x4 y4]] W fun e w' => OpsAt W (opsOf r) e w') := fun W hW => IH _ _ _ _ _ W hl' (NodeAt.but (Nat.le_refl _) (But.below hW) (NodeAt.but (Nat.le_refl _) (But.below hb1) hr))
      have hh1 := (hb1.block g (lt_of_heap hh)).trans hh
      have HHG : Hid (w1.heap[g]? = _) := hh1
      have hbx := heap_alloc_new w (Obj.cells #[.int .i64 1, .int .i64 y.pos, .int .i64 0, .string y.op, .slice (some ⟨g, 0, none⟩) 1 1] 28)
      rw [← hw1] at hbx
      have HBX : Hid (w1.heap[w.heap.size]? = _) := hbx
      have b0 := cell_of_heap hbx 0 _ rfl
      have b3 := cell_of_heap hbx 3 _ rfl
      have hz1' : w.heap.size < w1.heap.size := lt_of_heap hbx
      clear IH hr hh hh1 hb1 hbx hN hj
      have HO0 : Hid ((w1.alloc (Obj.cells #[.string y.op] 9)).ownsRow w.heap.size 9 1 (.slice none 0 0) 0 []) := World.ownsRow_nil _ _ _ _
      rw [hw1] at HO0
      go_enter Tryd.func11, Tryd.ntmps11
      go_wp2_with (at_builtin; refine wpList_append_near _ rfl _ _ 31 rfl w.heap.size 9 i0 _ 1 16 Tryd.underlying31 hi hz0 hz1 hz2 rfl (by decide) _ _ _ rfl HO0.out ⟨w.heap.size + 1, 0, none⟩ 1 1 [.string y.op] rfl rfl ?s1 (by simp [Value.oneCell']) (by decide) (by decide) (by first | (simp; done) | (simp; omega) | (simp [Heap.alloc]; done)) ?_)
      case s1 =>
        intro j u hu
        match j with
        | 0 => cases hu; simp [Addr.add_lit]
        | j + 1 => simp at hu
      intro v1 w2 hown hgrow _hn
      rw [← hw1] at hgrow
      have HB2 : Hid (Below w1.heap.size w1 w2) := ((Below.refl _ w1).alloc (Nat.le_refl _) _).grown hgrow (by simp) (fun k e => by cases e)
      have hB2 : Below w.heap.size w w2 := HB1.out.trans (HB2.out.mono HB1.out.size)
      have HBW2 : Hid (Below w.heap.size w w2) := hB2
      have hbx2 := (HB2.out.block _ (lt_of_heap HBX.out)).trans HBX.out
      have hg2 := (HB2.out.block _ (lt_of_heap HHG.out)).trans HHG.out
      have HBX2 : Hid (w2.heap[w.heap.size]? = _) := hbx2
      have HO2 : Hid (w2.ownsRow w.heap.size 9 1 v1 (0 + 1) ([] ++ [.string y.op])) := hown
      have b4 := cell_of_heap hbx2 4 _ rfl
      have e0 := cell_of_heap hg2 0 _ rfl
      have e1 := cell_of_heap hg2 1 _ rfl
      have e2 := cell_of_heap hg2 2 _ rfl
      have e3 := cell_of_heap hg2 3 _ rfl
      have e4 := cell_of_heap hg2 4 _ rfl
      clear hown hgrow _hn hB2 hbx2 hg2 hw1 b0 b3 HO0
      go_wp2_with fail
      refine wp_loop_rounds 2 ?_
      rw [rounds_succ]
      go_wp2_with fail
      refine (HIH.out w2 HB2.out).mono ?_
      rintro e w3 ⟨v, rfl, hown3, hb3⟩
      have HB3 : Hid (Below w.heap.size w w3) := HBW2.out.trans (hb3.mono HBW2.out.size)
      have HBX3 : Hid (w3.heap[w.heap.size]? = _) := (hb3.block _ (lt_of_heap HBX2.out)).trans HBX2.out
      have hz3' : w.heap.size ≤ w3.heap.size := HB3.out.size
      have HV : Hid (w3.ownsRow w2.heap.size 9 1 v (opsOf r).length (scells (opsOf r))) := hown3
      have HO3 : Hid (w3.ownsRow w.heap.size 9 1 v1 (0 + 1) ([] ++ [.string y.op])) := by
        refine ⟨HO2.out.1, ?_⟩
        rcases HO2.out.2 with h | ⟨g', cap', cur, rfl, hbg, hg', rest⟩
        · exact .inl h
        · exact .inr ⟨g', cap', cur, rfl, hbg, by rw [hb3.block g' (lt_of_heap hg')]; exact hg', rest⟩
      have hnb : v1.ownBlock ≠ some w.heap.size := by
        intro hx
        rcases HO3.out.2 with ⟨rfl, _⟩ | ⟨g', cap', cur, rfl, _, hg', _⟩
        · simp [Value.ownBlock] at hx
        · simp [Value.ownBlock] at hx
          subst hx
          rw [HBX3.out] at hg'
          simp at hg'
      clear hown3 hb3 e0 e1 e2 e3 e4 b4
      go_wp2_with (at_builtin; refine wpList_append_row _ rfl _ _ 31 rfl w.heap.size w2.heap.size 9 i0 _ 16 Tryd.underlying31 hi hz0 hz1 hz2 rfl _ _ _ rfl HO3.out _ _ _ rfl HV.out hone (by unfold maxLen; omega) (by omega) hz3' ?_; intro v' w4 hown' hgrow)
      have HG4 : Hid (Below w.heap.size w w4) := HB3.out.grown hgrow hz3' (fun k e => own_block HO3.out k e)
      have hbx4 := (hgrow.block w.heap.size (lt_of_heap HBX3.out) (fun h => hnb h.symm)).trans HBX3.out
      have b4 := cell_of_heap hbx4 4 _ rfl
      have HO4 : Hid (w4.ownsRow w.heap.size 9 1 v' (0 + 1 + (opsOf r).length) ([] ++ [.string y.op] ++ scells (opsOf r))) := hown'
      clear hgrow hown' hbx4 hnb
      go_wp2_with fail
      rw [rounds_succ]
      go_wp2
      go_ret
      refine ⟨_, rfl, ?_, HG4.out⟩
      have h5 := HO4.out
      rw [show 0 + 1 + (opsOf r).length = (y.op :: opsOf r).length by simp; omega] at h5
      exact h5

end Go.Proofs.YtocfhejjmefmcaaDoor.Fa
