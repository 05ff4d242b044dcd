/-
  The steps of an error's making as layers; the document's node of these layers in memory. No condition.
-/
import Derived.Test.YtocfhejjmefmcaaDoorFaJoin
import Derived.Test.YtocfhejjmefmcaaDoorStItems
namespace Go.Proofs.YtocfhejjmefmcaaDoor.Fa
open Go.ChangeShapes Go.WideShapes Go.ChangeAt Go.RowKit Go.Proofs.Fa

theorem cut_size (t : ByteArray) (n : Nat) (h : n ≤ 20) : (t.extract 0 n).size ≤ 1000 := by simp; omega

/-- A step, as a layer. -/
def layerOf (it : St.Item) : Layer :=
  if h : -9223372036854775808 ≤ it.n ∧ it.n ≤ 9223372036854775807 then { join := it.isText, op := it.text.extract 0 (min it.text.size 20), pos := it.n, k := 1 + it.size % 19, lo := h.1, hi := h.2, sz := cut_size _ _ (Nat.min_le_right _ _) }
  else { join := it.isText, op := it.text.extract 0 (min it.text.size 20), pos := 0, k := 1 + it.size % 19, lo := by decide, hi := by decide, sz := cut_size _ _ (Nat.min_le_right _ _) }

theorem layerOf_join (it : St.Item) : (layerOf it).join = it.isText := by unfold layerOf; split <;> rfl
theorem layerOf_op (it : St.Item) : (layerOf it).op = it.text.extract 0 (min it.text.size 20) := by unfold layerOf; split <;> rfl
theorem layerOf_k (it : St.Item) : (layerOf it).k = 1 + it.size % 19 := by unfold layerOf; split <;> rfl
theorem layerOf_pos (it : St.Item) (h : (Lit.int .i64 it.n).wf = true) : (layerOf it).pos = it.n := by
  simp only [Lit.wf, IntKind.min, IntKind.max, IntKind.signed, IntKind.bits, Bool.and_eq_true, decide_eq_true_eq, if_true] at h
  unfold layerOf; rw [dif_pos (by omega)]

/-- The layers behind the first k steps, the outermost first. -/
def layers (L : Nat → St.Item) : Nat → List Layer
  | 0 => []
  | k + 1 => layerOf (L k) :: layers L k
theorem layers_len (L : Nat → St.Item) (k : Nat) : (layers L k).length = k := by
  induction k with
  | zero => rfl
  | succ k ih => simp [layers, ih]

/-- A number's node. -/
def numNode (n : Int) : List Value := [.int .i64 3, .int .i64 0, .int .i64 n, .string ⟨#[]⟩, .slice none 0 0]

/-- The document's node of these layers: its cells; all that lies below it lies behind block nb. -/
def NodeAt (w : World) (nb : Nat) (m : Int) : List Layer → List Value → Prop
  | [], cs => cs = numNode m
  | y :: r, cs =>
    ∃ g c0 c1 c2 c3 c4, nb < g ∧ NodeAt w nb m r [c0, c1, c2, c3, c4] ∧
      ((y.join = true ∧ cs = [.int .i64 2, .int .i64 0, .int .i64 0, .string ⟨#[]⟩, .slice (some ⟨g, 0, none⟩) 2 2] ∧ w.heap[g]? = some (.cells #[c0, c1, c2, c3, c4, .int .i64 3, .int .i64 0, .int .i64 y.k, .string ⟨#[]⟩, .slice none 0 0] 28 (0, 0))) ∨
       (y.join = false ∧ cs = [.int .i64 1, .int .i64 y.pos, .int .i64 0, .string y.op, .slice (some ⟨g, 0, none⟩) 1 1] ∧ w.heap[g]? = some (.cells #[c0, c1, c2, c3, c4] 28 (0, 0))))

/-- All old blocks but one are as they were. -/
def But (nb : Nat) (w w' : World) : Prop := w.heap.size ≤ w'.heap.size ∧ ∀ j, j < w.heap.size → j ≠ nb → w'.heap[j]? = w.heap[j]?
theorem But.refl (nb : Nat) (w : World) : But nb w w := ⟨Nat.le_refl _, fun _ _ _ => rfl⟩
theorem But.trans {nb : Nat} {w w' w'' : World} (h : But nb w w') (h' : But nb w' w'') : But nb w w'' :=
  ⟨Nat.le_trans h.1 h'.1, fun j hj hn => (h'.2 j (Nat.lt_of_lt_of_le hj h.1) hn).trans (h.2 j hj hn)⟩
theorem But.below {nb : Nat} {w w' : World} (h : Below w.heap.size w w') : But nb w w' := ⟨h.size, fun j hj _ => h.block j hj⟩

theorem NodeAt.but {w w' : World} {x nb : Nat} {m : Int} (hx : x ≤ nb) (hb : But x w w') : ∀ {l : List Layer} {cs : List Value}, NodeAt w nb m l cs → NodeAt w' nb m l cs
  | [], _, h => h
  | y :: r, cs, ⟨g, c0, c1, c2, c3, c4, hg, hr, h⟩ => by
    refine ⟨g, c0, c1, c2, c3, c4, hg, NodeAt.but hx hb hr, ?_⟩
    rcases h with ⟨hj, hc, hh⟩ | ⟨hj, hc, hh⟩
    · exact .inl ⟨hj, hc, (hb.2 g (lt_of_heap hh) (by omega)).trans hh⟩
    · exact .inr ⟨hj, hc, (hb.2 g (lt_of_heap hh) (by omega)).trans hh⟩

/-- The shape of a node's cells. -/
theorem NodeAt.five {w : World} {nb : Nat} {m : Int} {l : List Layer} {cs : List Value} (h : NodeAt w nb m l cs) : ∃ (k a n : Int) (op : ByteArray) (s : Option Addr) (x y : Nat), cs = [.int .i64 k, .int .i64 a, .int .i64 n, .string op, .slice s x y] := by
  match l, h with
  | [], h => exact ⟨_, _, _, _, _, _, _, h⟩
  | y :: r, ⟨g, c0, c1, c2, c3, c4, hg, hr, h⟩ =>
    rcases h with ⟨hj, hc, hh⟩ | ⟨hj, hc, hh⟩
    · exact ⟨_, _, _, _, _, _, _, hc⟩
    · exact ⟨_, _, _, _, _, _, _, hc⟩

/-- An error is as it was where all but a node's block is. -/
theorem ErrAt.but {w w' : World} {nb : Nat} {b : Option (Option Int)} {k a n : Int} {op : ByteArray} {s : Option Addr} {x y : Nat} (hn : w.heap[nb]? = some (.cells #[.int .i64 k, .int .i64 a, .int .i64 n, .string op, .slice s x y] 28 (0, 0))) (hb : But nb w w') :
    ∀ {l : List Layer} {v : Value}, ErrAt w b l v → ErrAt w' b l v
  | [], _, h => h
  | z :: r, v, h => by
    rcases h with ⟨hj, g, cap, v', rfl, h0, h1, hr⟩ | ⟨hj, g, v', rfl, h0, hr⟩
    · have hg : g ≠ nb := by
        rintro rfl
        have := cell_of_heap hn 1 _ rfl
        rw [h1] at this
        simp at this
      have hc : ∀ i, w'.cell? ⟨g, i, none⟩ = w.cell? ⟨g, i, none⟩ := fun i => World.cell?_of_block (hb.2 g (lt_of_cell h0) hg)
      exact .inl ⟨hj, g, cap, v', rfl, by rw [hc]; exact h0, by rw [hc]; exact h1, ErrAt.but hn hb hr⟩
    · have hg : g ≠ nb := by
        rintro rfl
        rw [hn] at h0
        simp at h0
      exact .inr ⟨hj, g, v', rfl, by rw [hb.2 g (lt_of_heap h0) hg]; exact h0, ErrAt.but hn hb hr⟩

theorem ErrAt.iface {w : World} {m : Int} {l : List Layer} {v : Value} (h : ErrAt w (some (some m)) l v) : ∃ t u, v = .iface t u := by
  match l, h with
  | [], h => exact ⟨_, _, h⟩
  | y :: r, h =>
    rcases h with ⟨hj, g, cap, v', rfl, _⟩ | ⟨hj, g, v', rfl, _⟩
    · exact ⟨_, _, rfl⟩
    · exact ⟨_, _, rfl⟩

end Go.Proofs.YtocfhejjmefmcaaDoor.Fa
