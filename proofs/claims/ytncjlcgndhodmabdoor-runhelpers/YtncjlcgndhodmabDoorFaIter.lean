/-
  'all' of an error hands an iterator out. No condition.
-/
import Derived.Test.YtncjlcgndhodmabDoorFaAll
namespace Go.Proofs.YtncjlcgndhodmabDoor.Fa
open Go.ChangeShapes Go.WideShapes Go.ChangeAt Go.RowKit Go.Proofs.Fa Go.Shelf
attribute [local go_sem] Oper.semAt_some

theorem grown_set (w : World) (b i : Nat) (v : Value) : w.grownBy (w.setCell ⟨b, i, none⟩ v) (some b) := ⟨rfl, rfl, rfl, by simp, fun k _ hk => heap_setCell_other w ⟨b, i, none⟩ k _ (fun e => hk (by rw [e]))⟩

theorem keepsM_below {W W' : World} (h : Below W.heap.size W W') : KeepsM M W W' := ⟨h.size, fun k _ hk _ => (h.block k (lt_of_heap hk)).trans hk⟩

set_option maxRecDepth 100000
set_option maxHeartbeats 2000000

theorem all_any (v : Value) (hv : IsI v) (w : World) : Calls Tryd.prog 24 #[v] w fun e w' => e = .returned (.func (.func 39) #[] #[.pointer (some ⟨w.heap.size, 0, none⟩)]) ∧ w' = w.alloc (.cells #[v] 36) := by
  rcases hv with rfl | ⟨t, u, rfl⟩
  all_goals
    go_enter Tryd.func24, Tryd.ntmps24
    go_wp2
    go_ret
    exact ⟨rfl, rfl⟩

end Go.Proofs.YtncjlcgndhodmabDoor.Fa
