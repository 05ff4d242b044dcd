/-
  An argument that is an array of two ints, opened. No condition. Nothing of the program.
-/
import Derived.OpenShut
import Derived.WideShapes
namespace Go.Proofs.YtncjlcgndhodmabDoor.Ar
open Go Go.ChangeShapes Go.WideShapes Go.RowKit

theorem array2 {α : Type} {cs : Array α} (h : cs.size = 2) : ∃ c0 c1, cs = #[c0, c1] := by
  obtain ⟨l⟩ := cs
  match l, h with
  | [c0, c1], _ => exact ⟨c0, c1, rfl⟩

variable {H : Type} {enc : TypeId × Value → H} {P : Program} {w : World} {base : Nat} {sp : Nat → Bool} {held : Bool}

theorem open_arr2 {r : Reach} {b0 : Nat} {t e : TypeId} {v : Value} {d : DataW H} {p : List MemPlace} (ht : P.underlying t = some (.array 2 e)) (he : P.underlying e = some (.int .i64)) (hc : P.cellsOf e = 1) (hC : P.cellsOf t = 2)
    (hv : Value.okWide P w r b0 t v) (h : DataW.Trod enc P w base sp held t v d p) : ∃ x y : Int, v = .agg #[.int .i64 x, .int .i64 y] := by
  have hs : ∃ cs, v = .agg cs ∧ cs.size = P.cellsOf t := by
    simp only [Value.okWide, ht] at hv
    obtain ⟨cs, h1, h2, _⟩ := hv
    exact ⟨cs, h1, h2⟩
  obtain ⟨cs, rfl, hsz⟩ := hs
  obtain ⟨c0, c1, rfl⟩ := array2 (hsz.trans hC)
  obtain ⟨fuel, hf⟩ := h
  obtain ⟨xs, m, _, _, _, hl, hel⟩ := DataW.trod_array ht hf
  have h0 := hel 0 (by decide)
  have h1 := hel 1 (by decide)
  rw [hc, List.getElem?_eq_getElem (by omega)] at h0 h1
  obtain ⟨x, e0, _⟩ := DataW.trod_int he h0
  obtain ⟨y, e1, _⟩ := DataW.trod_int he h1
  simp [Value.cells] at e0 e1
  exact ⟨x, y, by rw [e0, e1]⟩

end Go.Proofs.YtncjlcgndhodmabDoor.Ar
