/-
  A slice of acts that came in, opened: where each one's cells lie, and what they hold. No condition.
-/
import Derived.Test.YtkfphmhnaelflaaNvItems
namespace Go.Proofs.Ytkfphmhnaelflaa.Nv
open Go.ChangeShapes Go.WideShapes Go.ChangeAt Go.RowKit Go.Deep

/-- An act, as plain data. -/
structure Act6 where
  what : Int
  kind : Int
  sector : Int
  data : ByteArray
  n : Int
  ka : Option Addr
  kl : Nat
  kc : Nat

def ActCells (w : World) (b o : Nat) (x : Act6) : Prop :=
  w.cell? ⟨b, o, none⟩ = some (.int .i64 x.what) ∧ w.cell? ⟨b, o + 1, none⟩ = some (.int .i64 x.kind) ∧ w.cell? ⟨b, o + 2, none⟩ = some (.int .i64 x.sector) ∧
  w.cell? ⟨b, o + 3, none⟩ = some (.string x.data) ∧ w.cell? ⟨b, o + 4, none⟩ = some (.int .i64 x.n) ∧ w.cell? ⟨b, o + 5, none⟩ = some (.slice x.ka x.kl x.kc)
def ActWf (x : Act6) : Prop := (Lit.int .i64 x.kind).wf = true ∧ (Lit.int .i64 x.sector).wf = true ∧ x.data.size ≤ maxLen ∧ (Lit.int .i64 x.n).wf = true
def ActsAt (w : World) (a : Option Addr) (len : Nat) (L : Nat → Act6) : Prop :=
  (len = 0 ∨ ∃ b off, a = some ⟨b, off, none⟩ ∧ b < w.heap.size ∧ ∀ i, i < len → ActCells w b (off + i * 6) (L i)) ∧ ∀ i, i < len → ActWf (L i)

theorem cellsAct : Try.prog.cellsOf 33 = 6 := by kernel_rfl
theorem cells1k : Try.prog.cellsOf 23 = 1 := by kernel_rfl
theorem list6 {l : List Value} (h : l.length = 6) : ∃ c0 c1 c2 c3 c4 c5, l = [c0, c1, c2, c3, c4, c5] := by
  match l, h with
  | [c0, c1, c2, c3, c4, c5], _ => exact ⟨c0, c1, c2, c3, c4, c5, rfl⟩
theorem ActCells.below {w w' : World} {b o : Nat} {x : Act6} (h : ActCells w b o x) (hb : Below w.heap.size w w') (hl : b < w.heap.size) : ActCells w' b o x := by
  obtain ⟨h0, h1, h2, h3, h4, h5⟩ := h
  exact ⟨(hb.cell (p := ⟨b, o, none⟩) hl).trans h0, (hb.cell (p := ⟨b, o + 1, none⟩) hl).trans h1, (hb.cell (p := ⟨b, o + 2, none⟩) hl).trans h2, (hb.cell (p := ⟨b, o + 3, none⟩) hl).trans h3, (hb.cell (p := ⟨b, o + 4, none⟩) hl).trans h4, (hb.cell (p := ⟨b, o + 5, none⟩) hl).trans h5⟩
theorem ActsAt.below {w w' : World} {a : Option Addr} {len : Nat} {L : Nat → Act6} (h : ActsAt w a len L) (hb : Below w.heap.size w w') : ActsAt w' a len L := by
  refine ⟨?_, h.2⟩
  rcases h.1 with h | ⟨b, off, rfl, hl, hc⟩
  · exact .inl h
  · exact .inr ⟨b, off, rfl, Nat.lt_of_lt_of_le hl hb.size, fun i hi => (hc i hi).below hb hl⟩

theorem acts_of_trod {H : Type} {enc : TypeId × Value → H} {W : World} {sp : Nat → Bool} {held : Bool} {a : Option Addr} {len cap : Nat} {d : DataW H} {p : List MemPlace}
    (h : DataW.Trod enc Try.prog W 0 sp held 22 (.slice a len cap) d p) : ∃ L, ActsAt W a len L ∧ len ≤ maxLen := by
  obtain ⟨fuel, hf⟩ := h
  rcases open_slice Try.underlying22 hf with ⟨hcs, _⟩ | ⟨x, len', cap', m, n, D, Pl, hcs, _, hl, hm, hmm, _, hel⟩
  · simp [Value.cells] at hcs
    obtain ⟨rfl, rfl, rfl⟩ := hcs
    exact ⟨fun _ => ⟨0, 0, 0, ByteArray.empty, 0, none, 0, 0⟩, ⟨.inl rfl, fun i hi => absurd hi (Nat.not_lt_zero _)⟩, Nat.zero_le _⟩
  · simp [Value.cells] at hcs
    obtain ⟨rfl, rfl, rfl⟩ := hcs
    have hlm : len ≤ m := by rw [hmm]; split <;> omega
    rw [cellsAct] at hel
    have hx : ∀ i, i < len → ∃ y : Act6, (W.cell? ((x.add (i * 6)).add 0) = some (.int .i64 y.what) ∧ W.cell? ((x.add (i * 6)).add 1) = some (.int .i64 y.kind) ∧ W.cell? ((x.add (i * 6)).add 2) = some (.int .i64 y.sector) ∧ W.cell? ((x.add (i * 6)).add 3) = some (.string y.data) ∧ W.cell? ((x.add (i * 6)).add 4) = some (.int .i64 y.n) ∧ W.cell? ((x.add (i * 6)).add 5) = some (.slice y.ka y.kl y.kc)) ∧ ActWf y := by
      intro i hi
      obtain ⟨cs', h1, h2⟩ := hel i (by omega)
      obtain ⟨_, hlen, hc⟩ := World.cells?_some h1
      obtain ⟨c0, c1, c2, c3, c4, c5, rfl⟩ := list6 hlen
      obtain ⟨xs, n', _, _, _, hlx, hfx⟩ := DataW.trod_struct Try.underlying33 h2
      obtain ⟨y0, y1, y2, y3, y4, y5, rfl⟩ : ∃ y0 y1 y2 y3 y4 y5, xs = [y0, y1, y2, y3, y4, y5] := by
        match xs, hlx with
        | [y0, y1, y2, y3, y4, y5], _ => exact ⟨y0, y1, y2, y3, y4, y5, rfl⟩
      have e0 : DataW.trod enc Try.prog W 0 sp held n' 3 [c0] = some y0 := by simpa [cells1i] using hfx 0 _ rfl
      have e1 : DataW.trod enc Try.prog W 0 sp held n' 3 [c1] = some y1 := by simpa [cells1i] using hfx 1 _ rfl
      have e2 : DataW.trod enc Try.prog W 0 sp held n' 3 [c2] = some y2 := by simpa [cells1i] using hfx 2 _ rfl
      have e3 : DataW.trod enc Try.prog W 0 sp held n' 9 [c3] = some y3 := by simpa [cells1s] using hfx 3 _ rfl
      have e4 : DataW.trod enc Try.prog W 0 sp held n' 3 [c4] = some y4 := by simpa [cells1i] using hfx 4 _ rfl
      have e5 : DataW.trod enc Try.prog W 0 sp held n' 23 [c5] = some y5 := by simpa [cells1k] using hfx 5 _ rfl
      obtain ⟨a0, g0, _, _⟩ := DataW.trod_int Try.underlying3 e0
      obtain ⟨a1, g1, _, q1⟩ := DataW.trod_int Try.underlying3 e1
      obtain ⟨a2, g2, _, q2⟩ := DataW.trod_int Try.underlying3 e2
      obtain ⟨a3, g3, _, q3⟩ := DataW.trod_string Try.underlying9 e3
      obtain ⟨a4, g4, _, q4⟩ := DataW.trod_int Try.underlying3 e4
      simp only [List.cons.injEq, and_true] at g0 g1 g2 g3 g4
      subst g0 g1 g2 g3 g4
      have g5 : ∃ ka kl kc, c5 = .slice ka kl kc := by
        rcases open_slice Try.underlying23 e5 with ⟨hk, _⟩ | ⟨xk, lk, ck, _, _, _, _, hk, _⟩
        · exact ⟨none, 0, 0, by simpa using hk⟩
        · exact ⟨some xk, lk, ck, by simpa using hk⟩
      obtain ⟨ka, kl, kc, rfl⟩ := g5
      exact ⟨⟨a0, a1, a2, a3, a4, ka, kl, kc⟩, ⟨hc 0 (by decide), hc 1 (by decide), hc 2 (by decide), hc 3 (by decide), hc 4 (by decide), hc 5 (by decide)⟩, q1, q2, q3, q4⟩
    have hch : ∃ L : Nat → Act6, ∀ i, i < len → (W.cell? ((x.add (i * 6)).add 0) = some (.int .i64 (L i).what) ∧ W.cell? ((x.add (i * 6)).add 1) = some (.int .i64 (L i).kind) ∧ W.cell? ((x.add (i * 6)).add 2) = some (.int .i64 (L i).sector) ∧ W.cell? ((x.add (i * 6)).add 3) = some (.string (L i).data) ∧ W.cell? ((x.add (i * 6)).add 4) = some (.int .i64 (L i).n) ∧ W.cell? ((x.add (i * 6)).add 5) = some (.slice (L i).ka (L i).kl (L i).kc)) ∧ ActWf (L i) := by
      classical
      refine ⟨fun i => if hi : i < len then Classical.choose (hx i hi) else ⟨0, 0, 0, ByteArray.empty, 0, none, 0, 0⟩, fun i hi => ?_⟩
      simp only [dif_pos hi]
      exact Classical.choose_spec (hx i hi)
    obtain ⟨L, hL⟩ := hch
    refine ⟨L, ⟨?_, fun i hi => (hL i hi).2⟩, Nat.le_trans hl hm⟩
    by_cases h0 : len = 0
    · exact .inl h0
    · right
      obtain ⟨b, off, spot⟩ := x
      have hc0 := (hL 0 (by omega)).1.1
      simp only [Nat.zero_mul] at hc0
      have hspot : spot = none := by simpa [Addr.add] using World.cell?_spot hc0
      subst hspot
      refine ⟨b, off, rfl, ?_, ?_⟩
      · rcases Nat.lt_or_ge b W.heap.size with h | h
        · exact h
        · simp [World.cell?, Addr.add, Array.getElem?_eq_none h] at hc0
      · intro i hi
        obtain ⟨z0, z1, z2, z3, z4, z5⟩ := (hL i hi).1
        simp only [Addr.add_lit, Nat.add_zero] at z0 z1 z2 z3 z4 z5
        exact ⟨z0, z1, z2, z3, z4, z5⟩

end Go.Proofs.Ytkfphmhnaelflaa.Nv
