/-
  Instructions that may be read; four cells turned. No condition.
-/
import Derived.Test.YtncjlcgndhodmabDoorRnM
namespace Go.Proofs.YtncjlcgndhodmabDoor.Cd
open Go.ChangeShapes Go.WideShapes Go.ChangeAt Go.RowKit
open Go.Proofs.YtncjlcgndhodmabDoor.Nv (lt_of_heap lt_of_cell cell_of_heap free_of_heap)

/-- Instructions that may be read. -/
def InsAt (w : World) (v : Value) (l : List In4) : Prop :=
  (v = .slice none 0 0 ∧ l = []) ∨ ∃ g off cap, v = .slice (some ⟨g, off, none⟩) l.length cap ∧ l.length ≤ cap ∧ cap ≤ 9223372036854775807 ∧ g < w.heap.size ∧ ∀ i (h : i < l.length), w.cell? ⟨g, off + i * 4, none⟩ = some (.int .i64 l[i].op) ∧ w.cell? ⟨g, off + i * 4 + 1, none⟩ = some (.int .i64 l[i].d) ∧ w.cell? ⟨g, off + i * 4 + 2, none⟩ = some (.int .i64 l[i].s) ∧ w.cell? ⟨g, off + i * 4 + 3, none⟩ = some (.int .i64 l[i].imm)
theorem InsAt.slice {w : World} {v : Value} {l : List In4} (h : InsAt w v l) : ∃ a c, v = .slice a l.length c := by
  rcases h with ⟨rfl, rfl⟩ | ⟨g, off, cap, rfl, _⟩
  · exact ⟨none, 0, rfl⟩
  · exact ⟨_, cap, rfl⟩
theorem InsAt.below {w w' : World} {v : Value} {l : List In4} (h : InsAt w v l) (hb : Below w.heap.size w w') : InsAt w' v l := by
  rcases h with h | ⟨g, off, cap, rfl, h1, h2, h3, h4⟩
  · exact .inl h
  · refine .inr ⟨g, off, cap, rfl, h1, h2, Nat.lt_of_lt_of_le h3 hb.size, fun i hi => ?_⟩
    obtain ⟨e0, e1, e2, e3⟩ := h4 i hi
    exact ⟨(World.cell?_of_block (hb.block g h3)).trans e0, (World.cell?_of_block (hb.block g h3)).trans e1, (World.cell?_of_block (hb.block g h3)).trans e2, (World.cell?_of_block (hb.block g h3)).trans e3⟩
/-- Four cells of a block turned. -/
def put4 (w : World) (z : Nat) (v0 v1 v2 v3 : Value) : World := (((w.setCell ⟨z, 0, none⟩ v0).setCell ⟨z, 1, none⟩ v1).setCell ⟨z, 2, none⟩ v2).setCell ⟨z, 3, none⟩ v3
theorem put4_heap {w : World} {z : Nat} {a0 a1 a2 a3 : Value} {t : TypeId} (h : w.heap[z]? = some (.cells #[a0, a1, a2, a3] t (0, 0))) (v0 v1 v2 v3 : Value) : (put4 w z v0 v1 v2 v3).heap[z]? = some (.cells #[v0, v1, v2, v3] t (0, 0)) := by
  have h0 := heap_setCell_same w z 0 _ t v0 h
  have h1 := heap_setCell_same _ z 1 _ t v1 h0
  have h2 := heap_setCell_same _ z 2 _ t v2 h1
  exact heap_setCell_same _ z 3 _ t v3 h2
theorem put4_below {B : Nat} {w0 w : World} (h : Below B w0 w) (z : Nat) (hb : B ≤ z) (v0 v1 v2 v3 : Value) : Below B w0 (put4 w z v0 v1 v2 v3) :=
  (((h.setCell (p := ⟨z, 0, none⟩) hb _).setCell (p := ⟨z, 1, none⟩) hb _).setCell (p := ⟨z, 2, none⟩) hb _).setCell (p := ⟨z, 3, none⟩) hb _

end Go.Proofs.YtncjlcgndhodmabDoor.Cd
