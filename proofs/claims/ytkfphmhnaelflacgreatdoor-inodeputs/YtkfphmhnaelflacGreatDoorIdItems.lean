/-
  A slice of extents that came in, opened: where each item's cells lie, and what they hold. No condition.
-/
import Derived.Test.YtkfphmhnaelflacGreatDoorIdCut
import Derived.Deep.Slices
import Derived.Lib.SmallJoins
import Derived.OpenShut
import Derived.ChangeSame
namespace Go.Proofs.YtkfphmhnaelflacGreatDoor.Id
open Go.ChangeShapes Go.WideShapes Go.ChangeAt Go.RowKit Go.Deep

set_option maxRecDepth 100000

/-- The items of a slice. -/
def ItemsAt (w : World) (a : Option Addr) (len : Nat) (L : Nat → Ext) : Prop :=
  (len = 0 ∨ ∃ b off, a = some ⟨b, off, none⟩ ∧ b < w.heap.size ∧ ∀ i, i < len →
    w.cell? ⟨b, off + i * 2, none⟩ = some (.int .i64 (L i).pos) ∧ w.cell? ⟨b, off + i * 2 + 1, none⟩ = some (.int .i64 (L i).len)) ∧
  ∀ i, i < len → (Lit.int .i64 (L i).pos).wf = true ∧ (Lit.int .i64 (L i).len).wf = true

theorem cellsItem : Tryz.prog.cellsOf 55 = 2 := by kernel_rfl
theorem cells1i : Tryz.prog.cellsOf 3 = 1 := by kernel_rfl

theorem list2 {l : List Value} (h : l.length = 2) : ∃ c0 c1, l = [c0, c1] := by
  match l, h with
  | [c0, c1], _ => exact ⟨c0, c1, rfl⟩

theorem items_of_trod {H : Type} {enc : TypeId × Value → H} {W : World} {sp : Nat → Bool} {held : Bool} {a : Option Addr} {len cap : Nat} {d : DataW H} {p : List MemPlace}
    (h : DataW.Trod enc Tryz.prog W 0 sp held 22 (.slice a len cap) d p) : ∃ L, ItemsAt W a len L ∧ len ≤ maxLen := by
  obtain ⟨fuel, hf⟩ := h
  rcases open_slice Tryz.underlying22 hf with ⟨hcs, _⟩ | ⟨x, len', cap', m, n, D, Pl, hcs, _, hl, hm, hmm, _, hel⟩
  · simp [Value.cells] at hcs
    obtain ⟨rfl, rfl, rfl⟩ := hcs
    exact ⟨fun _ => ⟨0, 0⟩, ⟨.inl rfl, fun i hi => absurd hi (Nat.not_lt_zero _)⟩, Nat.zero_le _⟩
  · simp [Value.cells] at hcs
    obtain ⟨rfl, rfl, rfl⟩ := hcs
    have hlm : len ≤ m := by rw [hmm]; split <;> omega
    rw [cellsItem] at hel
    have hx : ∀ i, i < len → ∃ it : Ext, (W.cell? ((x.add (i * 2)).add 0) = some (.int .i64 it.pos) ∧ W.cell? ((x.add (i * 2)).add 1) = some (.int .i64 it.len)) ∧
        ((Lit.int .i64 it.pos).wf = true ∧ (Lit.int .i64 it.len).wf = true) := by
      intro i hi
      obtain ⟨cs', h1, h2⟩ := hel i (by omega)
      obtain ⟨_, hlen, hc⟩ := World.cells?_some h1
      obtain ⟨c0, c1, rfl⟩ := list2 hlen
      obtain ⟨y0, y1, n', _, _, e0, e1⟩ := Go.ChangeShapes.trod_struct2 Tryz.underlying55 h2
      simp only [cells1i, List.drop_zero, List.take_succ_cons, List.take_zero, List.drop_succ_cons] at e0 e1
      obtain ⟨a0, g0, _, q0⟩ := DataW.trod_int Tryz.underlying3 e0
      obtain ⟨a1, g1, _, q1⟩ := DataW.trod_int Tryz.underlying3 e1
      simp only [List.cons.injEq, and_true] at g0 g1
      subst g0 g1
      exact ⟨⟨a0, a1⟩, ⟨hc 0 (by decide), hc 1 (by decide)⟩, q0, q1⟩
    have hch : ∃ L : Nat → Ext, ∀ i, i < len → (W.cell? ((x.add (i * 2)).add 0) = some (.int .i64 (L i).pos) ∧ W.cell? ((x.add (i * 2)).add 1) = some (.int .i64 (L i).len)) ∧
        ((Lit.int .i64 (L i).pos).wf = true ∧ (Lit.int .i64 (L i).len).wf = true) := by
      classical
      refine ⟨fun i => if hi : i < len then Classical.choose (hx i hi) else ⟨0, 0⟩, fun i hi => ?_⟩
      simp only [dif_pos hi]
      exact Classical.choose_spec (hx i hi)
    obtain ⟨L, hL⟩ := hch
    refine ⟨L, ⟨?_, fun i hi => (hL i hi).2⟩, Nat.le_trans hl hm⟩
    by_cases h0 : len = 0
    · exact .inl h0
    · right
      obtain ⟨b, off, spot⟩ := x
      have hc0 := (hL 0 (by omega)).1.1
      simp only [Nat.zero_mul] at hc0
      have hspot : spot = none := by simpa [Addr.add] using World.cell?_spot hc0
      subst hspot
      refine ⟨b, off, rfl, ?_, ?_⟩
      · rcases Nat.lt_or_ge b W.heap.size with h | h
        · exact h
        · simp [World.cell?, Addr.add, Array.getElem?_eq_none h] at hc0
      · intro i hi
        have := (hL i hi).1
        simpa only [add_plain, Nat.add_zero] using this

/-- Items are as they were where nothing old was turned. -/
theorem ItemsAt.below {w w' : World} {B : Nat} {a : Option Addr} {len : Nat} {L : Nat → Ext} (h : ItemsAt w a len L) (hb : Below B w w') (hB : w.heap.size ≤ B) : ItemsAt w' a len L := by
  refine ⟨?_, h.2⟩
  rcases h.1 with h0 | ⟨b, off, rfl, hlt, hc⟩
  · exact .inl h0
  · refine .inr ⟨b, off, rfl, Nat.lt_of_lt_of_le hlt hb.size, fun i hi => ?_⟩
    obtain ⟨h1, h2⟩ := hc i hi
    refine ⟨?_, ?_⟩
    · rw [hb.cell (p := ⟨b, off + i * 2, none⟩) (by simp; omega)]; exact h1
    · rw [hb.cell (p := ⟨b, off + i * 2 + 1, none⟩) (by simp; omega)]; exact h2

theorem open_ext {H : Type} {enc : TypeId × Value → H} {W : World} {sp : Nat → Bool} {held : Bool} {b0 : Nat} {v : Value} {d : DataW H} {p : List MemPlace} (hv : Value.okWide Tryz.prog W .any b0 55 v)
    (h : DataW.Trod enc Tryz.prog W 0 sp held 55 v d p) : ∃ x y : Int, v = .agg #[.int .i64 x, .int .i64 y] ∧ (Lit.int .i64 x).wf = true ∧ (Lit.int .i64 y).wf = true := by
  have hs : ∃ cs, v = .agg cs ∧ cs.size = Tryz.prog.cellsOf 55 := by
    simp only [Value.okWide, Tryz.underlying55] at hv
    obtain ⟨cs, h1, h2, _⟩ := hv
    exact ⟨cs, h1, h2⟩
  obtain ⟨cs, rfl, hsz⟩ := hs
  obtain ⟨fuel, hf⟩ := h
  obtain ⟨l⟩ := cs
  obtain ⟨c0, c1, rfl⟩ := list2 (l := l) (hsz.trans cellsItem)
  obtain ⟨y0, y1, n', _, _, e0, e1⟩ := Go.ChangeShapes.trod_struct2 Tryz.underlying55 hf
  simp only [Value.cells, cells1i, List.drop_zero, List.take_succ_cons, List.take_zero, List.drop_succ_cons] at e0 e1
  obtain ⟨a0, g0, _, q0⟩ := DataW.trod_int Tryz.underlying3 e0
  obtain ⟨a1, g1, _, q1⟩ := DataW.trod_int Tryz.underlying3 e1
  simp only [List.cons.injEq, and_true] at g0 g1
  subst g0 g1
  exact ⟨a0, a1, rfl, q0, q1⟩

end Go.Proofs.YtkfphmhnaelflacGreatDoor.Id
