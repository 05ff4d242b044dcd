/-
  An argument that is an array of three ints, opened. No condition. Nothing of the program.
-/
import Derived.Test.YtgfbcekmnpdoeaaArOpen
namespace Go.Proofs.Ytgfbcekmnpdoeaa.Ar
open Go Go.ChangeShapes Go.WideShapes Go.RowKit

theorem array3 {α : Type} {cs : Array α} (h : cs.size = 3) : ∃ c0 c1 c2, cs = #[c0, c1, c2] := by
  obtain ⟨l⟩ := cs
  match l, h with
  | [c0, c1, c2], _ => exact ⟨c0, c1, c2, rfl⟩

variable {H : Type} {enc : TypeId × Value → H} {P : Program} {w : World} {base : Nat} {sp : Nat → Bool} {held : Bool}

theorem open_arr3 {r : Reach} {b0 : Nat} {t e : TypeId} {v : Value} {d : DataW H} {p : List MemPlace} (ht : P.underlying t = some (.array 3 e)) (he : P.underlying e = some (.int .i64)) (hc : P.cellsOf e = 1) (hC : P.cellsOf t = 3)
    (hv : Value.okWide P w r b0 t v) (h : DataW.Trod enc P w base sp held t v d p) : ∃ x y z : Int, v = .agg #[.int .i64 x, .int .i64 y, .int .i64 z] := by
  have hs : ∃ cs, v = .agg cs ∧ cs.size = P.cellsOf t := by
    simp only [Value.okWide, ht] at hv
    obtain ⟨cs, h1, h2, _⟩ := hv
    exact ⟨cs, h1, h2⟩
  obtain ⟨cs, rfl, hsz⟩ := hs
  obtain ⟨c0, c1, c2, rfl⟩ := array3 (hsz.trans hC)
  obtain ⟨fuel, hf⟩ := h
  obtain ⟨xs, m, _, _, _, hl, hel⟩ := DataW.trod_array ht hf
  have h0 := hel 0 (by decide)
  have h1 := hel 1 (by decide)
  have h2 := hel 2 (by decide)
  rw [hc, List.getElem?_eq_getElem (by omega)] at h0 h1 h2
  obtain ⟨x, e0, _⟩ := DataW.trod_int he h0
  obtain ⟨y, e1, _⟩ := DataW.trod_int he h1
  obtain ⟨z, e2, _⟩ := DataW.trod_int he h2
  simp [Value.cells] at e0 e1 e2
  exact ⟨x, y, z, by rw [e0, e1, e2]⟩

end Go.Proofs.Ytgfbcekmnpdoeaa.Ar
