/-
  Where InodePlays stands between two acts. No condition.
-/
import Derived.Test.YtadimbpgdihjlaaDoorIdSame
import Derived.Test.YtadimbpgdihjlaaDoorIdActs
namespace Go.Proofs.YtadimbpgdihjlaaDoor.Id
open Go.ChangeShapes Go.WideShapes Go.ChangeAt Go.RowKit Go.Proofs.Fa

/-- The two inodes, and their rows. -/
structure PI (w W : World) (ab bb : Nat) (ver : Int) (va vb : Value) (l : List Ext) : Prop where
  a : W.heap[ab]? = some (.cells #[.int .i64 ver, va] 26 (0, 0))
  b : W.heap[bb]? = some (.cells #[.int .i64 ver, vb] 29 (0, 0))
  ra : Row W w.heap.size va l
  rb : RowR W w.heap.size vb l
  below : Below w.heap.size w W
  age : w.heap.size ≤ ab
  bge : w.heap.size ≤ bb
  abne : ab ≠ bb
  van : ∀ i, va.ownBlock = some i → i ≠ ab ∧ i ≠ bb
  vbn : ∀ i, vb.ownBlock = some i → i ≠ ab ∧ i ≠ bb
theorem PI.next {w W W' : World} {ab bb : Nat} {ver : Int} {va vb : Value} {l : List Ext} (h : PI w W ab bb ver va vb l) (hb : Below W.heap.size W W') : PI w W' ab bb ver va vb l :=
  ⟨(hb.block _ (lt_of_heap h.a)).trans h.a, (hb.block _ (lt_of_heap h.b)).trans h.b, row_below h.ra hb (Nat.le_refl _), row_below h.rb hb (Nat.le_refl _), h.below.trans (hb.mono h.below.size), h.age, h.bge, h.abne, h.van, h.vbn⟩
/-- Both inodes become others. -/
theorem PI.put {w wr W : World} {ab bb : Nat} {ver ver' : Int} {va vb v' u' : Value} {l l' : List Ext} (h : PI w wr ab bb ver va vb l) (hb : Below wr.heap.size wr W) (hn : Row W wr.heap.size v' l') (hw : RowR W wr.heap.size u' l') :
    PI w ((((W.setCell ⟨ab, 0, none⟩ (.int .i64 ver')).setCell ⟨ab, 1, none⟩ v').setCell ⟨bb, 0, none⟩ (.int .i64 ver')).setCell ⟨bb, 1, none⟩ u') ab bb ver' v' u' l' := by
  have hP := h.next hb
  have hal := lt_of_heap h.a
  have hbl := lt_of_heap h.b
  have hws := h.below.size
  refine ⟨(set2_other h.abne _ _).trans (set2_heap hP.a _ _), set2_heap ((set2_other (fun e => h.abne e.symm) _ _).trans hP.b) _ _, ?_, ?_, set2_below (set2_below hP.below _ h.age _ _) _ h.bge _ _, h.age, h.bge, h.abne, ?_, ?_⟩
  · exact row_base (row_keep hn (fun g e => (set2_other (by have := row_ge hn g e; omega) _ _).trans (set2_other (by have := row_ge hn g e; omega) _ _))) hws
  · exact row_base (row_keep hw (fun g e => (set2_other (by have := row_ge hw g e; omega) _ _).trans (set2_other (by have := row_ge hw g e; omega) _ _))) hws
  · intro i e; have := row_ge hn i e; omega
  · intro i e; have := row_ge hw i e; omega

/-- What an act has made: two inodes, alike. -/
structure QI (wr W : World) (nb wb : Nat) (ver' : Int) (v' u' : Value) (l' : List Ext) : Prop where
  n : W.heap[nb]? = some (.cells #[.int .i64 ver', v'] 26 (0, 0))
  w : W.heap[wb]? = some (.cells #[.int .i64 ver', u'] 29 (0, 0))
  rn : Row W wr.heap.size v' l'
  rw : RowR W wr.heap.size u' l'
  below : Below wr.heap.size wr W
theorem QI.next {wr W W' : World} {nb wb : Nat} {ver' : Int} {v' u' : Value} {l' : List Ext} (h : QI wr W nb wb ver' v' u' l') (hb : Below W.heap.size W W') : QI wr W' nb wb ver' v' u' l' :=
  ⟨(hb.block _ (lt_of_heap h.n)).trans h.n, (hb.block _ (lt_of_heap h.w)).trans h.w, row_below h.rn hb (Nat.le_refl _), row_below h.rw hb (Nat.le_refl _), h.below.trans (hb.mono h.below.size)⟩

/-- What an act may make of an inode. -/
def Fine (ver : Int) (f ver' : Int) (l' : List Ext) : Prop := l'.length ≤ 36 ∧ (f = 0 → OkL l' ∧ Apart l' ∧ 0 ≤ ver' ∧ ver' ≤ ver + 1)

/-- append(an empty row, a row...): a row of its own. -/
theorem copyP_run {W : World} {B gb B0 : Nat} (v : Value) (l : List Ext) (hr : Row W B v l) (hn : l.length ≤ 2000000) (hlit : W.heap[gb]? = some (.cells #[] 40 (0, 0))) (hB : B0 ≤ gb) (ty : TypeId) :
    ∃ v' W', (Builtin.append_ #[24, 24] ty #[.slice (some ⟨gb, 0, none⟩) 0 0, v]).run Tryd.prog W = .ok v' W' ∧ Row W' B0 v' l ∧ W.grownBy W' (some gb) ∧ Near W (.slice (some ⟨gb, 0, none⟩) 0 0) v' := by
  obtain ⟨i0, hi, hz0, hz1, hz2⟩ := info_parts info_ext
  have hown := lit_row hlit hB 2
  rcases hr.2 with ⟨rfl, h0⟩ | ⟨g, cap, cur, rfl, _⟩
  · have hl : l = [] := List.eq_nil_of_length_eq_zero h0
    subst hl
    refine ⟨_, _, run_append_owned_none (P := Tryd.prog) (w := W) B0 _ ty _ i0 2 Tryd.underlying24 hi _ 0 [] hown, hown, World.grownBy.refl _ _, .inl rfl⟩
  · have hsrc := World.ownsRow.cells (g := g) hr rfl
    obtain ⟨v', W', hrun, ho, hg, hnr⟩ := run_append_near (P := Tryd.prog) (w := W) B0 24 ty 40 i0 _ 2 16 Tryd.underlying24 hi hz0 hz1 hz2 rfl (by decide) _ 0 [] hown ⟨g, 0, none⟩ l.length cap (ecells l) (ecells_length l) hsrc (ecells_one l) (by unfold maxLen; omega) (by omega) (Nat.le_trans hB (Nat.le_of_lt (lt_of_heap hlit)))
    refine ⟨v', W', hrun, ?_, hg, hnr⟩
    rw [Nat.zero_add, List.nil_append] at ho
    exact ho

/-- Three cells. -/
theorem agg3 {w : World} {z : Nat} {a0 a1 a2 : Value} {t : TypeId} (h : w.heap[z]? = some (.cells #[a0, a1, a2] t (0, 0))) : w.cell? ⟨z, 0, none⟩ = some a0 ∧ w.cell? ⟨z, 1, none⟩ = some a1 ∧ w.cell? ⟨z, 2, none⟩ = some a2 :=
  ⟨cell_of_heap h 0 _ rfl, cell_of_heap h 1 _ rfl, cell_of_heap h 2 _ rfl⟩

/-- Inside an act: the two inodes, the act, the two that are to come, what was there. -/
structure R3 (w wr W : World) (ab bb nb : Nat) (what xa xb ver : Int) (va vb wv : Value) (l : List Ext) : Prop where
  p : PI w W ab bb ver va vb l
  x : W.heap[wr.heap.size]? = some (.cells #[.int .i64 what, .int .i64 xa, .int .i64 xb] 31 (0, 0))
  n : W.heap[nb]? = some (.cells #[.int .i64 0, .slice none 0 0] 26 (0, 0))
  m : W.heap[nb + 1]? = some (.cells #[.int .i64 0, .slice none 0 0] 29 (0, 0))
  was : Row W (wr.heap.size + 1) wv l
  below : Below wr.heap.size wr W
  nge : wr.heap.size < nb
  wasn : ∀ i, wv.ownBlock = some i → i ≠ nb ∧ i ≠ nb + 1
theorem R3.next {w wr W W' : World} {ab bb nb : Nat} {what xa xb ver : Int} {va vb wv : Value} {l : List Ext} (h : R3 w wr W ab bb nb what xa xb ver va vb wv l) (hb : Below W.heap.size W W') : R3 w wr W' ab bb nb what xa xb ver va vb wv l :=
  ⟨h.p.next hb, (hb.block _ (lt_of_heap h.x)).trans h.x, (hb.block _ (lt_of_heap h.n)).trans h.n, (hb.block _ (lt_of_heap h.m)).trans h.m, row_below h.was hb (Nat.le_refl _), h.below.trans (hb.mono h.below.size), h.nge, h.wasn⟩
theorem R3.alloc {w wr W : World} {ab bb nb : Nat} {what xa xb ver : Int} {va vb wv : Value} {l : List Ext} (h : R3 w wr W ab bb nb what xa xb ver va vb wv l) (o : Obj) : R3 w wr (W.alloc o) ab bb nb what xa xb ver va vb wv l := h.next ((Below.refl _ _).alloc (Nat.le_refl _) _)
theorem R3.drew {w wr W : World} {ab bb nb : Nat} {what xa xb ver : Int} {va vb wv : Value} {l : List Ext} (h : R3 w wr W ab bb nb what xa xb ver va vb wv l) : R3 w wr W.drew ab bb nb what xa xb ver va vb wv l := h.next (Below.refl _ _).drew

/-- Behind an act: the two inodes as they were, what was there, the two that came. -/
structure R5 (w wr W : World) (ab bb nb : Nat) (ver ver' : Int) (va vb wv v' u' : Value) (l l' : List Ext) : Prop where
  p : PI w W ab bb ver va vb l
  was : Row W (wr.heap.size + 1) wv l
  q : QI wr W nb (nb + 1) ver' v' u' l'
theorem R5.next {w wr W W' : World} {ab bb nb : Nat} {ver ver' : Int} {va vb wv v' u' : Value} {l l' : List Ext} (h : R5 w wr W ab bb nb ver ver' va vb wv v' u' l l') (hb : Below W.heap.size W W') : R5 w wr W' ab bb nb ver ver' va vb wv v' u' l l' :=
  ⟨h.p.next hb, row_below h.was hb (Nat.le_refl _), h.q.next hb⟩
/-- Both are stored where they are to come. -/
theorem R3.put {w wr W0 W : World} {ab bb nb : Nat} {what xa xb ver ver' : Int} {va vb wv v' u' : Value} {l l' : List Ext} (h : R3 w wr W ab bb nb what xa xb ver va vb wv l) (hal : ab < wr.heap.size ∧ bb < wr.heap.size) (hvl : (∀ i, va.ownBlock = some i → i < wr.heap.size) ∧ (∀ i, vb.ownBlock = some i → i < wr.heap.size)) (hW0 : nb + 1 < W0.heap.size) (hwr : wr.heap.size ≤ W0.heap.size) (hn : Row W W0.heap.size v' l') (hw : RowR W W0.heap.size u' l') :
    R5 w wr ((((W.setCell ⟨nb, 0, none⟩ (.int .i64 ver')).setCell ⟨nb, 1, none⟩ v').setCell ⟨nb + 1, 0, none⟩ (.int .i64 ver')).setCell ⟨nb + 1, 1, none⟩ u') ab bb nb ver ver' va vb wv v' u' l l' := by
  have hnge := h.nge
  have hkeep : ∀ j, j ≠ nb → j ≠ nb + 1 → ((((W.setCell ⟨nb, 0, none⟩ (.int .i64 ver')).setCell ⟨nb, 1, none⟩ v').setCell ⟨nb + 1, 0, none⟩ (.int .i64 ver')).setCell ⟨nb + 1, 1, none⟩ u').heap[j]? = W.heap[j]? := fun j h1 h2 => (set2_other h2 _ _).trans (set2_other h1 _ _)
  refine ⟨⟨(hkeep _ (by omega) (by omega)).trans h.p.a, (hkeep _ (by omega) (by omega)).trans h.p.b, row_keep h.p.ra (fun g e => hkeep g (by have := hvl.1 g e; omega) (by have := hvl.1 g e; omega)), row_keep h.p.rb (fun g e => hkeep g (by have := hvl.2 g e; omega) (by have := hvl.2 g e; omega)), ?_, h.p.age, h.p.bge, h.p.abne, h.p.van, h.p.vbn⟩, row_keep h.was (fun g e => hkeep g (h.wasn g e).1 (h.wasn g e).2), ⟨(set2_other (by omega) _ _).trans (set2_heap h.n _ _), set2_heap ((set2_other (by omega) _ _).trans h.m) _ _, ?_, ?_, set2_below (set2_below h.below _ (by omega) _ _) _ (by omega) _ _⟩⟩
  · have := h.p.age
    exact set2_below (set2_below h.p.below _ (by omega) _ _) _ (by omega) _ _
  · exact row_base (row_keep hn (fun g e => hkeep g (by have := row_ge hn g e; omega) (by have := row_ge hn g e; omega))) hwr
  · exact row_base (row_keep hw (fun g e => hkeep g (by have := row_ge hw g e; omega) (by have := row_ge hw g e; omega))) hwr

/-- Inside a Grow: the first inode is there, the second is to come. -/
structure G4 (w wr W0 W : World) (ab bb nb : Nat) (what xa xb ver ver' : Int) (va vb wv v' : Value) (l l' : List Ext) : Prop where
  p : PI w W ab bb ver va vb l
  x : W.heap[wr.heap.size]? = some (.cells #[.int .i64 what, .int .i64 xa, .int .i64 xb] 31 (0, 0))
  n : W.heap[nb]? = some (.cells #[.int .i64 ver', v'] 26 (0, 0))
  m : W.heap[nb + 1]? = some (.cells #[.int .i64 0, .slice none 0 0] 29 (0, 0))
  was : Row W (wr.heap.size + 1) wv l
  rn : Row W W0.heap.size v' l'
  below : Below wr.heap.size wr W
  nge : wr.heap.size < nb
  wasn : ∀ i, wv.ownBlock = some i → i ≠ nb ∧ i ≠ nb + 1
theorem G4.next {w wr W0 W W' : World} {ab bb nb : Nat} {what xa xb ver ver' : Int} {va vb wv v' : Value} {l l' : List Ext} (h : G4 w wr W0 W ab bb nb what xa xb ver ver' va vb wv v' l l') (hb : Below W.heap.size W W') : G4 w wr W0 W' ab bb nb what xa xb ver ver' va vb wv v' l l' :=
  ⟨h.p.next hb, (hb.block _ (lt_of_heap h.x)).trans h.x, (hb.block _ (lt_of_heap h.n)).trans h.n, (hb.block _ (lt_of_heap h.m)).trans h.m, row_below h.was hb (Nat.le_refl _), row_below h.rn hb (Nat.le_refl _), h.below.trans (hb.mono h.below.size), h.nge, h.wasn⟩
theorem R3.putn {w wr W0 W : World} {ab bb nb : Nat} {what xa xb ver ver' : Int} {va vb wv v' : Value} {l l' : List Ext} (h : R3 w wr W ab bb nb what xa xb ver va vb wv l) (hal : ab < wr.heap.size ∧ bb < wr.heap.size) (hvl : (∀ i, va.ownBlock = some i → i < wr.heap.size) ∧ (∀ i, vb.ownBlock = some i → i < wr.heap.size)) (hW0 : nb + 1 < W0.heap.size) (hn : Row W W0.heap.size v' l') :
    G4 w wr W0 ((W.setCell ⟨nb, 0, none⟩ (.int .i64 ver')).setCell ⟨nb, 1, none⟩ v') ab bb nb what xa xb ver ver' va vb wv v' l l' := by
  have hnge := h.nge
  have hage := h.p.age
  have hws : w.heap.size ≤ wr.heap.size := by omega
  refine ⟨⟨(set2_other (by omega) _ _).trans h.p.a, (set2_other (by omega) _ _).trans h.p.b, row_keep h.p.ra (fun g e => set2_other (by have := hvl.1 g e; omega) _ _), row_keep h.p.rb (fun g e => set2_other (by have := hvl.2 g e; omega) _ _), set2_below h.p.below _ (by omega) _ _, h.p.age, h.p.bge, h.p.abne, h.p.van, h.p.vbn⟩, (set2_other (by omega) _ _).trans h.x, set2_heap h.n _ _, (set2_other (by omega) _ _).trans h.m, row_keep h.was (fun g e => set2_other (h.wasn g e).1 _ _), row_keep hn (fun g e => set2_other (by have := row_ge hn g e; omega) _ _), set2_below h.below _ (by omega) _ _, h.nge, h.wasn⟩
theorem G4.putw {w wr W0 W : World} {ab bb nb : Nat} {what xa xb ver ver' : Int} {va vb wv v' u' : Value} {l l' : List Ext} (h : G4 w wr W0 W ab bb nb what xa xb ver ver' va vb wv v' l l') (hal : ab < wr.heap.size ∧ bb < wr.heap.size) (hvl : (∀ i, va.ownBlock = some i → i < wr.heap.size) ∧ (∀ i, vb.ownBlock = some i → i < wr.heap.size)) (hW0 : nb + 1 < W0.heap.size) (hwr : wr.heap.size ≤ W0.heap.size) (hw : RowR W W0.heap.size u' l') :
    R5 w wr ((W.setCell ⟨nb + 1, 0, none⟩ (.int .i64 ver')).setCell ⟨nb + 1, 1, none⟩ u') ab bb nb ver ver' va vb wv v' u' l l' := by
  have hnge := h.nge
  have hage := h.p.age
  refine ⟨⟨(set2_other (by omega) _ _).trans h.p.a, (set2_other (by omega) _ _).trans h.p.b, row_keep h.p.ra (fun g e => set2_other (by have := hvl.1 g e; omega) _ _), row_keep h.p.rb (fun g e => set2_other (by have := hvl.2 g e; omega) _ _), set2_below h.p.below _ (by omega) _ _, h.p.age, h.p.bge, h.p.abne, h.p.van, h.p.vbn⟩, row_keep h.was (fun g e => set2_other (h.wasn g e).2 _ _), ⟨(set2_other (by omega) _ _).trans h.n, set2_heap h.m _ _, row_base (row_keep h.rn (fun g e => set2_other (by have := row_ge h.rn g e; omega) _ _)) hwr, row_base (row_keep hw (fun g e => set2_other (by have := row_ge hw g e; omega) _ _)) hwr, set2_below h.below _ (by omega) _ _⟩⟩

def cutE (l : List Ext) (b : Int) : Int := if 0 ≤ b ∧ b ≤ sizeF l then 0 else 1
def cutV (l : List Ext) (b ver : Int) : Int := if 0 ≤ b ∧ b ≤ sizeF l then (if cutL l b = [] then ver else ver + 1) else 0
def cutKx (l : List Ext) (b : Int) : List Ext := if 0 ≤ b ∧ b ≤ sizeF l then cutK l b else []
def cutLx (l : List Ext) (b : Int) : List Ext := if 0 ≤ b ∧ b ≤ sizeF l then cutL l b else []
theorem CutAt.norm {w w' : World} {ver : Int} {l : List Ext} {b : Int} {r : Ending} (h : CutAt w ver l b r w') : ∃ a c d e, r = .returned (.tuple #[.agg #[.int .i64 (cutV l b ver), .slice a (cutKx l b).length c], .slice d (cutLx l b).length e, errV (cutE l b)]) ∧ Row w' w.heap.size (.slice a (cutKx l b).length c) (cutKx l b) ∧ Row w' w.heap.size (.slice d (cutLx l b).length e) (cutLx l b) ∧ Below w.heap.size w w' := by
  obtain ⟨⟨ver', v', f', rfl, h1, h0⟩, hb⟩ := h
  unfold cutE cutV cutKx cutLx
  by_cases hc : 0 ≤ b ∧ b ≤ sizeF l
  · obtain ⟨rfl, hr, hf⟩ := h1 hc
    simp only [if_pos hc]
    obtain ⟨a, c, rfl, _⟩ := row_slice hr
    obtain ⟨d, e, rfl, _⟩ := row_slice hf
    exact ⟨a, c, d, e, rfl, hr, hf, hb⟩
  · obtain ⟨rfl, rfl, rfl⟩ := h0 hc
    simp only [if_neg hc]
    exact ⟨none, 0, none, 0, rfl, World.ownsRow_nil _ _ _ _, World.ownsRow_nil _ _ _ _, hb⟩
theorem CutAtR.norm {w w' : World} {ver : Int} {l : List Ext} {b : Int} {r : Ending} (h : CutAtR w ver l b r w') : ∃ a c d e, r = .returned (.tuple #[.agg #[.int .i64 (cutV l b ver), .slice a (cutKx l b).length c], .slice d (cutLx l b).length e, .int .i64 (cutE l b)]) ∧ RowR w' w.heap.size (.slice a (cutKx l b).length c) (cutKx l b) ∧ RowR w' w.heap.size (.slice d (cutLx l b).length e) (cutLx l b) ∧ Below w.heap.size w w' := by
  obtain ⟨⟨ver', v', f', rfl, h1, h0⟩, hb⟩ := h
  unfold cutE cutV cutKx cutLx
  by_cases hc : 0 ≤ b ∧ b ≤ sizeF l
  · obtain ⟨rfl, hr, hf⟩ := h1 hc
    simp only [if_pos hc]
    obtain ⟨a, c, rfl, _⟩ := row_slice hr
    obtain ⟨d, e, rfl, _⟩ := row_slice hf
    exact ⟨a, c, d, e, rfl, hr, hf, hb⟩
  · obtain ⟨rfl, rfl, rfl⟩ := h0 hc
    simp only [if_neg hc]
    exact ⟨none, 0, none, 0, rfl, World.ownsRow_nil _ _ _ _, World.ownsRow_nil _ _ _ _, hb⟩
theorem cut_fine {l : List Ext} {b ver : Int} (ho : OkL l) (ha : Apart l) (hn : l.length ≤ 36) (hv : 0 ≤ ver) : Fine ver (cutE l b) (cutV l b ver) (cutKx l b) := by
  unfold Fine cutE cutV cutKx
  by_cases hc : 0 ≤ b ∧ b ≤ sizeF l
  · simp only [if_pos hc]
    refine ⟨Nat.le_trans (cutK_length l b) hn, fun _ => ⟨cutK_ok' ho b hc.1, cutK_apart ha ho b hc.1, ?_, ?_⟩⟩ <;> split <;> omega
  · simp only [if_neg hc]
    exact ⟨by decide, fun h => by cases h⟩

def growV (l : List Ext) (e : Ext) (ver : Int) : Int := if growE l e = 0 then ver + 1 else 0
def growL (l : List Ext) (e : Ext) : List Ext := if growE l e = 0 then appF l e else []
theorem GrowAt.norm {w w' : World} {ver : Int} {l : List Ext} {e : Ext} {r : Ending} (h : GrowAt w ver l e r w') : ∃ a c, r = .returned (.tuple #[.agg #[.int .i64 (growV l e ver), .slice a (growL l e).length c], errV (growE l e)]) ∧ Row w' w.heap.size (.slice a (growL l e).length c) (growL l e) ∧ Below w.heap.size w w' := by
  obtain ⟨⟨ver', v', rfl, h1, h0⟩, hb⟩ := h
  unfold growV growL
  by_cases hc : growE l e = 0
  · obtain ⟨rfl, hr⟩ := h1 hc
    simp only [if_pos hc]
    obtain ⟨a, c, rfl, _⟩ := row_slice hr
    exact ⟨a, c, rfl, hr, hb⟩
  · obtain ⟨rfl, rfl⟩ := h0 hc
    simp only [if_neg hc]
    exact ⟨none, 0, rfl, World.ownsRow_nil _ _ _ _, hb⟩
theorem GrowAtR.norm {w w' : World} {ver : Int} {l : List Ext} {e : Ext} {r : Ending} (h : GrowAtR w ver l e r w') : ∃ a c, r = .returned (.tuple #[.agg #[.int .i64 (growV l e ver), .slice a (growL l e).length c], .int .i64 (growE l e)]) ∧ RowR w' w.heap.size (.slice a (growL l e).length c) (growL l e) ∧ Below w.heap.size w w' := by
  obtain ⟨⟨ver', v', rfl, h1, h0⟩, hb⟩ := h
  unfold growV growL
  by_cases hc : growE l e = 0
  · obtain ⟨rfl, hr⟩ := h1 hc
    simp only [if_pos hc]
    obtain ⟨a, c, rfl, _⟩ := row_slice hr
    exact ⟨a, c, rfl, hr, hb⟩
  · obtain ⟨rfl, rfl⟩ := h0 hc
    simp only [if_neg hc]
    exact ⟨none, 0, rfl, World.ownsRow_nil _ _ _ _, hb⟩
theorem grow_fine {l : List Ext} {e : Ext} {ver : Int} (ho : OkL l) (ha : Apart l) (hn : l.length ≤ 36) (hv : 0 ≤ ver) : Fine ver (growE l e) (growV l e ver) (growL l e) := by
  unfold Fine growV growL
  by_cases hc : growE l e = 0
  · simp only [if_pos hc]
    have hm : mayF l e = true := by
      unfold growE at hc
      by_cases hm : mayF l e = true
      · exact hm
      · rw [if_neg hm] at hc; cases hc
    have hb : Ok e := (belowF_ok e).1 (by unfold mayF at hm; simp only [Bool.and_eq_true] at hm; exact hm.1)
    refine ⟨?_, fun _ => ⟨appF_ok ho hb, apart_app ha ho hm, by omega, by omega⟩⟩
    unfold growE at hc
    rw [if_pos hm] at hc
    have h2 : joinsF l e = true ∨ l.length < 36 := by
      by_cases h2 : joinsF l e = true ∨ l.length < 36
      · exact h2
      · rw [if_neg h2] at hc; cases hc
    rcases last_cases l with rfl | ⟨b, o, rfl⟩
    · simp [appF_nil]
    · by_cases hj : o.pos + o.len = e.pos
      · rw [appF_join _ _ _ hj]; simp at hn ⊢; omega
      · rw [appF_new _ _ _ hj]
        rcases h2 with h2 | h2
        · rw [joinsF_last] at h2; exact absurd (by simpa using h2) hj
        · simp at h2 ⊢; omega
  · simp only [if_neg hc]
    exact ⟨by decide, fun h => absurd h hc⟩

def movV (l : List Ext) (i pos ver : Int) : Int := if movE l i pos = 0 then ver + 1 else 0
def movM (l : List Ext) (i pos : Int) : List Ext := if movE l i pos = 0 then movL l i.toNat pos else []
def movX (l : List Ext) (i pos : Int) : Ext := if movE l i pos = 0 then (l[i.toNat]?).getD ⟨0, 0⟩ else ⟨0, 0⟩
theorem MoveAt.norm {w w' : World} {ver : Int} {l : List Ext} {i pos : Int} {r : Ending} (h : MoveAt w ver l i pos r w') : ∃ a c, r = .returned (.tuple #[.agg #[.int .i64 (movV l i pos ver), .slice a (movM l i pos).length c], .agg #[.int .i64 (movX l i pos).pos, .int .i64 (movX l i pos).len], errV (movE l i pos)]) ∧ Row w' w.heap.size (.slice a (movM l i pos).length c) (movM l i pos) ∧ Below w.heap.size w w' := by
  obtain ⟨⟨ver', v', e', rfl, h1, h0⟩, hb⟩ := h
  unfold movV movM movX
  by_cases hc : movE l i pos = 0
  · obtain ⟨rfl, hr, he⟩ := h1 hc
    simp only [if_pos hc, he, Option.getD_some]
    obtain ⟨a, c, rfl, _⟩ := row_slice hr
    exact ⟨a, c, rfl, hr, hb⟩
  · obtain ⟨rfl, rfl, rfl⟩ := h0 hc
    simp only [if_neg hc]
    exact ⟨none, 0, rfl, World.ownsRow_nil _ _ _ _, hb⟩
theorem MoveAtR.norm {w w' : World} {ver : Int} {l : List Ext} {i pos : Int} {r : Ending} (h : MoveAtR w ver l i pos r w') : ∃ a c, r = .returned (.tuple #[.agg #[.int .i64 (movV l i pos ver), .slice a (movM l i pos).length c], .agg #[.int .i64 (movX l i pos).pos, .int .i64 (movX l i pos).len], .int .i64 (movE l i pos)]) ∧ RowR w' w.heap.size (.slice a (movM l i pos).length c) (movM l i pos) ∧ Below w.heap.size w w' := by
  obtain ⟨⟨ver', v', e', rfl, h1, h0⟩, hb⟩ := h
  unfold movV movM movX
  by_cases hc : movE l i pos = 0
  · obtain ⟨rfl, hr, he⟩ := h1 hc
    simp only [if_pos hc, he, Option.getD_some]
    obtain ⟨a, c, rfl, _⟩ := row_slice hr
    exact ⟨a, c, rfl, hr, hb⟩
  · obtain ⟨rfl, rfl, rfl⟩ := h0 hc
    simp only [if_neg hc]
    exact ⟨none, 0, rfl, World.ownsRow_nil _ _ _ _, hb⟩
theorem mov_fine {l : List Ext} {i pos ver : Int} (ho : OkL l) (ha : Apart l) (hn : l.length ≤ 36) (hv : 0 ≤ ver) : Fine ver (movE l i pos) (movV l i pos ver) (movM l i pos) := by
  unfold Fine movV movM
  by_cases hc : movE l i pos = 0
  · simp only [if_pos hc]
    refine ⟨by rw [movL_length]; exact hn, fun _ => ?_⟩
    unfold movE at hc
    by_cases hneg : i < 0
    · rw [if_pos hneg] at hc; cases hc
    · rw [if_neg hneg] at hc
      cases he : l[i.toNat]? with
      | none => rw [he] at hc; cases hc
      | some e =>
        rw [he] at hc
        dsimp only at hc
        by_cases hm : mayF l ⟨pos, e.len⟩ = true
        · refine ⟨movL_ok ho he hm, movL_apart ha he ?_, by omega, by omega⟩
          unfold mayF at hm
          simp only [Bool.and_eq_true, Bool.not_eq_true'] at hm
          exact hm.2
        · rw [if_neg hm] at hc; cases hc
  · simp only [if_neg hc]
    exact ⟨by decide, fun h => absurd h hc⟩

end Go.Proofs.YtadimbpgdihjlaaDoor.Id
