/-
  A slice of acts of layer 15 that came in, opened: where each one's cells lie, what they hold, and the things of each. No condition.
-/
import Derived.Test.YtgfbcekmnpdoeaaNvItems
namespace Go.Proofs.Ytgfbcekmnpdoeaa.Hd
open Go.ChangeShapes Go.WideShapes Go.ChangeAt Go.RowKit Go.Deep
open Go.Proofs.Ytgfbcekmnpdoeaa.Nv (CellsAt ints_of_trod cells1i)

/-- An act, as plain data. -/
structure ActH where
  what : Int
  ticket : Int
  la : Option Addr
  ll : Nat
  lc : Nat
  at' : Nat → Int

def ActCells (w : World) (b o : Nat) (x : ActH) : Prop :=
  w.cell? ⟨b, o, none⟩ = some (.int .i64 x.what) ∧ w.cell? ⟨b, o + 1, none⟩ = some (.int .i64 x.ticket) ∧ w.cell? ⟨b, o + 2, none⟩ = some (.slice x.la x.ll x.lc)
def ActWf (w : World) (x : ActH) : Prop := (Lit.int .i64 x.what).wf = true ∧ (Lit.int .i64 x.ticket).wf = true ∧ CellsAt w x.la x.ll (fun i => .int .i64 (x.at' i)) ∧ x.ll ≤ x.lc
def ActsAt (w : World) (a : Option Addr) (len : Nat) (L : Nat → ActH) : Prop :=
  (len = 0 ∨ ∃ b off, a = some ⟨b, off, none⟩ ∧ b < w.heap.size ∧ ∀ i, i < len → ActCells w b (off + i * 3) (L i)) ∧ ∀ i, i < len → ActWf w (L i)

theorem cellsAct : Try.prog.cellsOf 34 = 3 := by kernel_rfl
theorem cells1k : Try.prog.cellsOf 29 = 1 := by kernel_rfl
theorem list3 {l : List Value} (h : l.length = 3) : ∃ c0 c1 c2, l = [c0, c1, c2] := by
  match l, h with
  | [c0, c1, c2], _ => exact ⟨c0, c1, c2, rfl⟩
theorem ActCells.below {w w' : World} {b o : Nat} {x : ActH} (h : ActCells w b o x) (hb : Below w.heap.size w w') (hl : b < w.heap.size) : ActCells w' b o x := by
  obtain ⟨h0, h1, h2⟩ := h
  exact ⟨(hb.cell (p := ⟨b, o, none⟩) hl).trans h0, (hb.cell (p := ⟨b, o + 1, none⟩) hl).trans h1, (hb.cell (p := ⟨b, o + 2, none⟩) hl).trans h2⟩

theorem acts_of_trod {H : Type} {enc : TypeId × Value → H} {W : World} {sp : Nat → Bool} {held : Bool} {a : Option Addr} {len cap : Nat} {d : DataW H} {p : List MemPlace}
    (h : DataW.Trod enc Try.prog W 0 sp held 22 (.slice a len cap) d p) : ∃ L, ActsAt W a len L ∧ len ≤ maxLen := by
  obtain ⟨fuel, hf⟩ := h
  rcases open_slice Try.underlying22 hf with ⟨hcs, _⟩ | ⟨x, len', cap', m, n, D, Pl, hcs, _, hl, hm, hmm, _, hel⟩
  · simp [Value.cells] at hcs
    obtain ⟨rfl, rfl, rfl⟩ := hcs
    exact ⟨fun _ => ⟨0, 0, none, 0, 0, fun _ => 0⟩, ⟨.inl rfl, fun i hi => absurd hi (Nat.not_lt_zero _)⟩, Nat.zero_le _⟩
  · simp [Value.cells] at hcs
    obtain ⟨rfl, rfl, rfl⟩ := hcs
    have hlm : len ≤ m := by rw [hmm]; split <;> omega
    rw [cellsAct] at hel
    have hx : ∀ i, i < len → ∃ y : ActH, (W.cell? ((x.add (i * 3)).add 0) = some (.int .i64 y.what) ∧ W.cell? ((x.add (i * 3)).add 1) = some (.int .i64 y.ticket) ∧ W.cell? ((x.add (i * 3)).add 2) = some (.slice y.la y.ll y.lc)) ∧ ActWf W y := by
      intro i hi
      obtain ⟨cs', h1, h2⟩ := hel i (by omega)
      obtain ⟨_, hlen, hc⟩ := World.cells?_some h1
      obtain ⟨c0, c1, c2, rfl⟩ := list3 hlen
      obtain ⟨y0, y1, y2, n', _, _, e0, e1, e2⟩ := Go.Deep.trod_struct3 Try.underlying34 h2
      simp only [cells1i, cells1k, List.drop_zero, List.take_succ_cons, List.take_zero, List.drop_succ_cons] at e0 e1 e2
      obtain ⟨a0, g0, _, q0⟩ := DataW.trod_int Try.underlying3 e0
      obtain ⟨a1, g1, _, q1⟩ := DataW.trod_int Try.underlying3 e1
      simp only [List.cons.injEq, and_true] at g0 g1
      subst g0 g1
      have g2 : ∃ ka kl kc, c2 = .slice ka kl kc := by
        rcases open_slice Try.underlying29 e2 with ⟨hk, _⟩ | ⟨xk, lk, ck, _, _, _, _, hk, _⟩
        · exact ⟨none, 0, 0, by simpa using hk⟩
        · exact ⟨some xk, lk, ck, by simpa using hk⟩
      obtain ⟨ka, kl, kc, rfl⟩ := g2
      have t2 : DataW.Trod enc Try.prog W 0 sp held 29 (.slice ka kl kc) y2.1 y2.2 := ⟨n', by simpa [Value.cells] using e2⟩
      obtain ⟨LL, hLL, _, _, hlc⟩ := ints_of_trod t2
      exact ⟨⟨a0, a1, ka, kl, kc, LL⟩, ⟨hc 0 (by decide), hc 1 (by decide), hc 2 (by decide)⟩, q0, q1, hLL, hlc⟩
    have hch : ∃ L : Nat → ActH, ∀ i, i < len → (W.cell? ((x.add (i * 3)).add 0) = some (.int .i64 (L i).what) ∧ W.cell? ((x.add (i * 3)).add 1) = some (.int .i64 (L i).ticket) ∧ W.cell? ((x.add (i * 3)).add 2) = some (.slice (L i).la (L i).ll (L i).lc)) ∧ ActWf W (L i) := by
      classical
      refine ⟨fun i => if hi : i < len then Classical.choose (hx i hi) else ⟨0, 0, none, 0, 0, fun _ => 0⟩, fun i hi => ?_⟩
      simp only [dif_pos hi]
      exact Classical.choose_spec (hx i hi)
    obtain ⟨L, hL⟩ := hch
    refine ⟨L, ⟨?_, fun i hi => (hL i hi).2⟩, Nat.le_trans hl hm⟩
    by_cases h0 : len = 0
    · exact .inl h0
    · right
      obtain ⟨b, off, spot⟩ := x
      have hc0 := (hL 0 (by omega)).1.1
      simp only [Nat.zero_mul] at hc0
      have hspot : spot = none := by simpa [Addr.add] using World.cell?_spot hc0
      subst hspot
      refine ⟨b, off, rfl, ?_, ?_⟩
      · rcases Nat.lt_or_ge b W.heap.size with h | h
        · exact h
        · simp [World.cell?, Addr.add, Array.getElem?_eq_none h] at hc0
      · intro i hi
        obtain ⟨z0, z1, z2⟩ := (hL i hi).1
        simp only [Addr.add_lit, Nat.add_zero] at z0 z1 z2
        exact ⟨z0, z1, z2⟩

end Go.Proofs.Ytgfbcekmnpdoeaa.Hd
