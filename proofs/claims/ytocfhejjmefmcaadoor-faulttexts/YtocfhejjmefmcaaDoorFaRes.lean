/-
  What 'made' hands back. No condition.
-/
import Derived.Test.YtocfhejjmefmcaaDoorFaMadeM
namespace Go.Proofs.YtocfhejjmefmcaaDoor.Fa
open Go.ChangeShapes Go.WideShapes Go.ChangeAt Go.RowKit Go.Proofs.Fa

set_option maxRecDepth 100000
theorem res_made (tm : Array Value) (v : Value) (rb : Nat) (W : World) (a0 a1 a2 a3 a4 : Value) (h4 : tm[4]? = some v) (h5 : tm[5]? = some (.pointer (some ⟨rb, 0, none⟩)))
    (h : W.heap[rb]? = some (.cells #[a0, a1, a2, a3, a4] 28 (0, 0))) : (results Tryd.f9 tm).run Tryd.prog W = .ok (.tuple #[v, .agg #[a0, a1, a2, a3, a4]]) W := by
  have c0 : W.cell? ⟨rb, 0, none⟩ = some a0 := cell_of_heap h 0 _ rfl
  have c1 : W.cell? ⟨rb, 1, none⟩ = some a1 := cell_of_heap h 1 _ rfl
  have c2 : W.cell? ⟨rb, 2, none⟩ = some a2 := cell_of_heap h 2 _ rfl
  have c3 : W.cell? ⟨rb, 3, none⟩ = some a3 := cell_of_heap h 3 _ rfl
  have c4 : W.cell? ⟨rb, 4, none⟩ = some a4 := cell_of_heap h 4 _ rfl
  clear h
  simp [results, Tryd.f9, go_sem, h4, h5, c0, c1, c2, c3, c4]

end Go.Proofs.YtocfhejjmefmcaaDoor.Fa
