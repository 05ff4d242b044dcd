/-
  A slice of extents that came in, opened: where each item's cells lie, and what they hold. No condition.
-/
import Derived.Test.YtadimbpgdihjlaaDoorIdCut
import Derived.Deep.Slices
import Derived.Lib.SmallJoins
import Derived.OpenShut
import Derived.ChangeSame
namespace Go.Proofs.YtadimbpgdihjlaaDoor.Id
open Go.ChangeShapes Go.WideShapes Go.ChangeAt Go.RowKit Go.Deep

/-- The items of a slice. -/
def ItemsAt (w : World) (a : Option Addr) (len : Nat) (L : Nat → Ext) : Prop :=
  (len = 0 ∨ ∃ b off, a = some ⟨b, off, none⟩ ∧ b < w.heap.size ∧ ∀ i, i < len →
    w.cell? ⟨b, off + i * 2, none⟩ = some (.int .i64 (L i).pos) ∧ w.cell? ⟨b, off + i * 2 + 1, none⟩ = some (.int .i64 (L i).len)) ∧
  ∀ i, i < len → (Lit.int .i64 (L i).pos).wf = true ∧ (Lit.int .i64 (L i).len).wf = true

theorem list2 {l : List Value} (h : l.length = 2) : ∃ c0 c1, l = [c0, c1] := by
  match l, h with
  | [c0, c1], _ => exact ⟨c0, c1, rfl⟩

/-- Items are as they were where nothing old was turned. -/
theorem ItemsAt.below {w w' : World} {B : Nat} {a : Option Addr} {len : Nat} {L : Nat → Ext} (h : ItemsAt w a len L) (hb : Below B w w') (hB : w.heap.size ≤ B) : ItemsAt w' a len L := by
  refine ⟨?_, h.2⟩
  rcases h.1 with h0 | ⟨b, off, rfl, hlt, hc⟩
  · exact .inl h0
  · refine .inr ⟨b, off, rfl, Nat.lt_of_lt_of_le hlt hb.size, fun i hi => ?_⟩
    obtain ⟨h1, h2⟩ := hc i hi
    refine ⟨?_, ?_⟩
    · rw [hb.cell (p := ⟨b, off + i * 2, none⟩) (by simp; omega)]; exact h1
    · rw [hb.cell (p := ⟨b, off + i * 2 + 1, none⟩) (by simp; omega)]; exact h2

end Go.Proofs.YtadimbpgdihjlaaDoor.Id
