/-
  Slices of texts and of numbers that came in, opened: where each one's cell lies, and what it holds. No condition.
-/
import Derived.Test.YtgfbcekmnpdoeaaNvM
import Derived.Deep.Slices
import Derived.Lib.SmallJoins
import Derived.OpenShut
namespace Go.Proofs.Ytgfbcekmnpdoeaa.Nv
open Go.ChangeShapes Go.WideShapes Go.ChangeAt Go.RowKit Go.Deep

/-- One cell an item. -/
def CellsAt (w : World) (a : Option Addr) (len : Nat) (f : Nat → Value) : Prop :=
  len = 0 ∨ ∃ b off, a = some ⟨b, off, none⟩ ∧ b < w.heap.size ∧ ∀ i, i < len → w.cell? ⟨b, off + i, none⟩ = some (f i)
theorem cells1s : Try.prog.cellsOf 9 = 1 := by kernel_rfl
theorem cells1i : Try.prog.cellsOf 3 = 1 := by kernel_rfl
theorem list1 {l : List Value} (h : l.length = 1) : ∃ c0, l = [c0] := by
  match l, h with
  | [c0], _ => exact ⟨c0, rfl⟩
theorem CellsAt.below {w w' : World} {a : Option Addr} {len : Nat} {f : Nat → Value} (h : CellsAt w a len f) (hb : Below w.heap.size w w') : CellsAt w' a len f := by
  rcases h with h | ⟨b, off, rfl, hl, hc⟩
  · exact .inl h
  · exact .inr ⟨b, off, rfl, Nat.lt_of_lt_of_le hl hb.size, fun i hi => (hb.cell (p := ⟨b, off + i, none⟩) hl).trans (hc i hi)⟩
/-- Chosen cells of a row, as the walk reads them. -/
theorem cells_of_rows {W : World} {x : Addr} {len : Nat} {f : Nat → Value} (hL : ∀ i, i < len → W.cell? ((x.add (i * 1)).add 0) = some (f i)) : CellsAt W (some x) len f := by
  by_cases h0 : len = 0
  · exact .inl h0
  · right
    obtain ⟨b, off, spot⟩ := x
    have hc0 := hL 0 (by omega)
    simp only [Nat.zero_mul] at hc0
    have hspot : spot = none := by simpa [Addr.add] using World.cell?_spot hc0
    subst hspot
    refine ⟨b, off, rfl, ?_, ?_⟩
    · rcases Nat.lt_or_ge b W.heap.size with h | h
      · exact h
      · simp [World.cell?, Addr.add, Array.getElem?_eq_none h] at hc0
    · intro i hi
      have := hL i hi
      simpa [Addr.add_lit] using this

theorem strs_of_trod {H : Type} {enc : TypeId × Value → H} {W : World} {sp : Nat → Bool} {held : Bool} {a : Option Addr} {len cap : Nat} {d : DataW H} {p : List MemPlace}
    (h : DataW.Trod enc Try.prog W 0 sp held 76 (.slice a len cap) d p) : ∃ L : Nat → ByteArray, CellsAt W a len (fun i => .string (L i)) ∧ (∀ i, i < len → (L i).size ≤ maxLen) ∧ len ≤ maxLen ∧ len ≤ cap := by
  obtain ⟨fuel, hf⟩ := h
  rcases open_slice Try.underlying76 hf with ⟨hcs, _⟩ | ⟨x, len', cap', m, n, D, Pl, hcs, _, hl, hm, hmm, _, hel⟩
  · simp [Value.cells] at hcs
    obtain ⟨rfl, rfl, rfl⟩ := hcs
    exact ⟨fun _ => ByteArray.empty, .inl rfl, fun i hi => absurd hi (Nat.not_lt_zero _), Nat.zero_le _, Nat.zero_le _⟩
  · simp [Value.cells] at hcs
    obtain ⟨rfl, rfl, rfl⟩ := hcs
    have hlm : len ≤ m := by rw [hmm]; split <;> omega
    rw [cells1s] at hel
    have hx : ∀ i, i < len → ∃ t : ByteArray, W.cell? ((x.add (i * 1)).add 0) = some (.string t) ∧ t.size ≤ maxLen := by
      intro i hi
      obtain ⟨cs', h1, h2⟩ := hel i (by omega)
      obtain ⟨_, hlen, hc⟩ := World.cells?_some h1
      obtain ⟨c0, rfl⟩ := list1 hlen
      obtain ⟨t, g0, _, q0⟩ := DataW.trod_string Try.underlying9 h2
      simp only [List.cons.injEq, and_true] at g0
      subst g0
      exact ⟨t, hc 0 (by decide), q0⟩
    have hch : ∃ L : Nat → ByteArray, ∀ i, i < len → W.cell? ((x.add (i * 1)).add 0) = some (.string (L i)) ∧ (L i).size ≤ maxLen := by
      classical
      refine ⟨fun i => if hi : i < len then Classical.choose (hx i hi) else ByteArray.empty, fun i hi => ?_⟩
      simp only [dif_pos hi]
      exact Classical.choose_spec (hx i hi)
    obtain ⟨L, hL⟩ := hch
    exact ⟨L, cells_of_rows (fun i hi => (hL i hi).1), fun i hi => (hL i hi).2, Nat.le_trans hl hm, hl⟩

theorem ints_of_trod {H : Type} {enc : TypeId × Value → H} {W : World} {sp : Nat → Bool} {held : Bool} {a : Option Addr} {len cap : Nat} {d : DataW H} {p : List MemPlace}
    (h : DataW.Trod enc Try.prog W 0 sp held 29 (.slice a len cap) d p) : ∃ L : Nat → Int, CellsAt W a len (fun i => .int .i64 (L i)) ∧ (∀ i, i < len → (Lit.int .i64 (L i)).wf = true) ∧ len ≤ maxLen ∧ len ≤ cap := by
  obtain ⟨fuel, hf⟩ := h
  rcases open_slice Try.underlying29 hf with ⟨hcs, _⟩ | ⟨x, len', cap', m, n, D, Pl, hcs, _, hl, hm, hmm, _, hel⟩
  · simp [Value.cells] at hcs
    obtain ⟨rfl, rfl, rfl⟩ := hcs
    exact ⟨fun _ => 0, .inl rfl, fun i hi => absurd hi (Nat.not_lt_zero _), Nat.zero_le _, Nat.zero_le _⟩
  · simp [Value.cells] at hcs
    obtain ⟨rfl, rfl, rfl⟩ := hcs
    have hlm : len ≤ m := by rw [hmm]; split <;> omega
    rw [cells1i] at hel
    have hx : ∀ i, i < len → ∃ t : Int, W.cell? ((x.add (i * 1)).add 0) = some (.int .i64 t) ∧ (Lit.int .i64 t).wf = true := by
      intro i hi
      obtain ⟨cs', h1, h2⟩ := hel i (by omega)
      obtain ⟨_, hlen, hc⟩ := World.cells?_some h1
      obtain ⟨c0, rfl⟩ := list1 hlen
      obtain ⟨t, g0, _, q0⟩ := DataW.trod_int Try.underlying3 h2
      simp only [List.cons.injEq, and_true] at g0
      subst g0
      exact ⟨t, hc 0 (by decide), q0⟩
    have hch : ∃ L : Nat → Int, ∀ i, i < len → W.cell? ((x.add (i * 1)).add 0) = some (.int .i64 (L i)) ∧ (Lit.int .i64 (L i)).wf = true := by
      classical
      refine ⟨fun i => if hi : i < len then Classical.choose (hx i hi) else 0, fun i hi => ?_⟩
      simp only [dif_pos hi]
      exact Classical.choose_spec (hx i hi)
    obtain ⟨L, hL⟩ := hch
    exact ⟨L, cells_of_rows (fun i hi => (hL i hi).1), fun i hi => (hL i hi).2, Nat.le_trans hl hm, hl⟩

end Go.Proofs.Ytgfbcekmnpdoeaa.Nv
