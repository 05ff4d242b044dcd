/-
  A slice of the law's instructions that came in, opened. No condition.
-/
import Derived.Test.YtielliiadacbbaaDoorCdSp
import Derived.Deep.Slices
import Derived.Lib.SmallJoins
import Derived.OpenShut
import Derived.ChangeSame
namespace Go.Proofs.YtielliiadacbbaaDoor.Cd
open Go.ChangeShapes Go.WideShapes Go.ChangeAt Go.RowKit Go.Deep
open Go.Proofs.YtielliiadacbbaaDoor.Nv (lt_of_heap lt_of_cell cell_of_heap free_of_heap)

set_option maxRecDepth 100000

/-- The cells of an instruction. -/
def InCells (w : World) (b off : Nat) (x : In4) : Prop :=
  w.cell? ⟨b, off, none⟩ = some (.int .i64 x.op) ∧ w.cell? ⟨b, off + 1, none⟩ = some (.int .i64 x.d) ∧ w.cell? ⟨b, off + 2, none⟩ = some (.int .i64 x.s) ∧ w.cell? ⟨b, off + 3, none⟩ = some (.int .i64 x.imm)
theorem InCells.below {w w' : World} {b off : Nat} {x : In4} (h : InCells w b off x) (hb : Below w.heap.size w w') (hl : b < w.heap.size) : InCells w' b off x :=
  ⟨(World.cell?_of_block (hb.block b hl)).trans h.1, (World.cell?_of_block (hb.block b hl)).trans h.2.1, (World.cell?_of_block (hb.block b hl)).trans h.2.2.1, (World.cell?_of_block (hb.block b hl)).trans h.2.2.2⟩
/-- The items of a slice. -/
def ItemsAt (w : World) (a : Option Addr) (len : Nat) (L : Nat → In4) : Prop :=
  len = 0 ∨ ∃ b off, a = some ⟨b, off, none⟩ ∧ b < w.heap.size ∧ ∀ i, i < len → InCells w b (off + i * 4) (L i)

theorem cellsItem : Tryd.prog.cellsOf 28 = 4 := by kernel_rfl
theorem cells1i : Tryd.prog.cellsOf 3 = 1 := by kernel_rfl

theorem list4 {l : List Value} (h : l.length = 4) : ∃ c0 c1 c2 c3, l = [c0, c1, c2, c3] := by
  match l, h with
  | [c0, c1, c2, c3], _ => exact ⟨c0, c1, c2, c3, rfl⟩

theorem items_of_trod {H : Type} {enc : TypeId × Value → H} {W : World} {sp : Nat → Bool} {held : Bool} {a : Option Addr} {len cap : Nat} {d : DataW H} {p : List MemPlace}
    (h : DataW.Trod enc Tryd.prog W 0 sp held 22 (.slice a len cap) d p) : ∃ L, ItemsAt W a len L ∧ len ≤ maxLen := by
  obtain ⟨fuel, hf⟩ := h
  rcases open_slice Tryd.underlying22 hf with ⟨hcs, _⟩ | ⟨x, len', cap', m, n, D, Pl, hcs, _, hl, hm, hmm, _, hel⟩
  · simp [Value.cells] at hcs
    obtain ⟨rfl, rfl, rfl⟩ := hcs
    exact ⟨fun _ => ⟨0, 0, 0, 0⟩, .inl rfl, Nat.zero_le _⟩
  · simp [Value.cells] at hcs
    obtain ⟨rfl, rfl, rfl⟩ := hcs
    have hlm : len ≤ m := by rw [hmm]; split <;> omega
    rw [cellsItem] at hel
    have hx : ∀ i, i < len → ∃ it : In4, W.cell? ((x.add (i * 4)).add 0) = some (.int .i64 it.op) ∧ W.cell? ((x.add (i * 4)).add 1) = some (.int .i64 it.d) ∧ W.cell? ((x.add (i * 4)).add 2) = some (.int .i64 it.s) ∧ W.cell? ((x.add (i * 4)).add 3) = some (.int .i64 it.imm) := by
      intro i hi
      obtain ⟨cs', h1, h2⟩ := hel i (by omega)
      obtain ⟨_, hlen, hc⟩ := World.cells?_some h1
      obtain ⟨c0, c1, c2, c3, rfl⟩ := list4 hlen
      obtain ⟨y0, y1, y2, y3, n', _, _, e0, e1, e2, e3⟩ := Go.Joins.trod_struct4 Tryd.underlying28 h2
      simp only [cells1i, List.drop_zero, List.take_succ_cons, List.take_zero, List.drop_succ_cons] at e0 e1 e2 e3
      obtain ⟨a0, g0, _, _⟩ := DataW.trod_int Tryd.underlying3 e0
      obtain ⟨a1, g1, _, _⟩ := DataW.trod_int Tryd.underlying3 e1
      obtain ⟨a2, g2, _, _⟩ := DataW.trod_int Tryd.underlying3 e2
      obtain ⟨a3, g3, _, _⟩ := DataW.trod_int Tryd.underlying3 e3
      simp only [List.cons.injEq, and_true] at g0 g1 g2 g3
      subst g0 g1 g2 g3
      exact ⟨⟨a0, a1, a2, a3⟩, hc 0 (by decide), hc 1 (by decide), hc 2 (by decide), hc 3 (by decide)⟩
    have hch : ∃ L : Nat → In4, ∀ i, i < len → W.cell? ((x.add (i * 4)).add 0) = some (.int .i64 (L i).op) ∧ W.cell? ((x.add (i * 4)).add 1) = some (.int .i64 (L i).d) ∧ W.cell? ((x.add (i * 4)).add 2) = some (.int .i64 (L i).s) ∧ W.cell? ((x.add (i * 4)).add 3) = some (.int .i64 (L i).imm) := by
      classical
      refine ⟨fun i => if hi : i < len then Classical.choose (hx i hi) else ⟨0, 0, 0, 0⟩, fun i hi => ?_⟩
      simp only [dif_pos hi]
      exact Classical.choose_spec (hx i hi)
    obtain ⟨L, hL⟩ := hch
    refine ⟨L, ?_, Nat.le_trans hl hm⟩
    by_cases h0 : len = 0
    · exact .inl h0
    · right
      obtain ⟨b, off, spot⟩ := x
      have hc0 := (hL 0 (by omega)).1
      simp only [Nat.zero_mul] at hc0
      have hspot : spot = none := by simpa [Addr.add] using World.cell?_spot hc0
      subst hspot
      refine ⟨b, off, rfl, ?_, ?_⟩
      · rcases Nat.lt_or_ge b W.heap.size with h | h
        · exact h
        · simp [World.cell?, Addr.add, Array.getElem?_eq_none h] at hc0
      · intro i hi
        have := hL i hi
        simpa only [InCells, add_plain, Nat.add_zero] using this

/-- The first k of them. -/
def fst (L : Nat → In4) (k : Nat) : List In4 := (List.range k).map L
theorem fst_length (L : Nat → In4) (k : Nat) : (fst L k).length = k := by simp [fst]
theorem fst_succ (L : Nat → In4) (k : Nat) : fst L (k + 1) = fst L k ++ [L k] := by simp [fst, List.range_succ]

end Go.Proofs.YtielliiadacbbaaDoor.Cd
