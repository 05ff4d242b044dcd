/-
  Layer 18's calls: the cap, the nearest number, a span's Has, Top, One, Join, Add, Sub, Clamp. No condition.
-/
import Derived.Test.YtncjlcgndhodmabDoorRows
import Derived.Test.YtncjlcgndhodmabDoorSnP
import Derived.Test.YtncjlcgndhodmabDoorNvM
import Derived.WalkKit
import Derived.ProofKit
import Derived.OpenShut
import Derived.Below
import Derived.Deep.RegionHeld3
import Derived.RegionTactic
import Derived.BigRegion
namespace Go.Proofs.YtncjlcgndhodmabDoor.Sn
open Go.ChangeShapes Go.WideShapes Go.ChangeAt Go.RowKit
open Go.Proofs.YtncjlcgndhodmabDoor.Nv (lt_of_heap lt_of_cell cell_of_heap free_of_heap)

set_option maxRecDepth 100000
set_option maxHeartbeats 1000000

theorem nearest_any (n f t : Int) (w : World) : Calls Tryd.prog 45 #[.int .i64 n, .int .i64 f, .int .i64 t] w fun r w' => r = .returned (.int .i64 (nearF n f t)) ∧ w' = w := by
  go_enter Tryd.func45, Tryd.ntmps45
  go_wp2
  all_goals go_ret
  all_goals first
    | exact ⟨by rw [show nearF n f t = t by unfold nearF; (repeat' split) <;> omega]; rfl, rfl⟩
    | exact ⟨by rw [show nearF n f t = f by unfold nearF; (repeat' split) <;> omega]; rfl, rfl⟩
    | exact ⟨by rw [show nearF n f t = n by unfold nearF; (repeat' split) <;> omega]; rfl, rfl⟩

theorem cap_any (n : Int) (w : World) : Calls Tryd.prog 35 #[.int .i64 n] w fun r w' => r = .returned (.int .i64 (capF n)) ∧ w' = w := by
  go_enter Tryd.func35, Tryd.ntmps35
  go_wp2_with fail
  refine (nearest_any _ _ _ _).mono ?_
  rintro r w1 ⟨rfl, rfl⟩
  rw [nearF_cap]
  go_wp2
  go_ret
  exact ⟨rfl, rfl⟩

theorem abs_any (n : Int) (w : World) (h1 : -4398046511104 ≤ n) (h2 : n ≤ 4398046511104) : Calls Tryd.prog 52 #[.int .i64 n] w fun r w' => r = .returned (.int .i64 (n.natAbs : Int)) ∧ w' = w := by
  have hw : IntKind.i64.wrap (-n) = -n := IntWalk.i64_in _ (by omega)
  go_enter Tryd.func52, Tryd.ntmps52
  go_wp2
  all_goals go_ret
  all_goals first
    | exact ⟨by rw [show (n.natAbs : Int) = n by omega]; rfl, rfl⟩
    | exact ⟨by rw [show (n.natAbs : Int) = -n by omega]; rfl, rfl⟩

theorem set2_heap {w : World} {z : Nat} {a0 a1 : Value} {t : TypeId} (h : w.heap[z]? = some (.cells #[a0, a1] t (0, 0))) (v0 v1 : Value) : ((w.setCell ⟨z, 0, none⟩ v0).setCell ⟨z, 1, none⟩ v1).heap[z]? = some (.cells #[v0, v1] t (0, 0)) := by
  have h0 := heap_setCell_same w z 0 _ t v0 h
  exact heap_setCell_same _ z 1 _ t v1 h0

theorem set2_below {B : Nat} {w0 w : World} (h : Below B w0 w) (z : Nat) (hb : B ≤ z) (v0 v1 : Value) : Below B w0 ((w.setCell ⟨z, 0, none⟩ v0).setCell ⟨z, 1, none⟩ v1) :=
  (h.setCell (p := ⟨z, 0, none⟩) hb _).setCell (p := ⟨z, 1, none⟩) hb _

theorem agg2 {w : World} {z : Nat} {a0 a1 : Value} {t : TypeId} (h : w.heap[z]? = some (.cells #[a0, a1] t (0, 0))) : w.cell? ⟨z, 0, none⟩ = some a0 ∧ w.cell? ⟨z, 1, none⟩ = some a1 ∧ w.frozen? ⟨z, 0, none⟩ = false ∧ w.frozen? ⟨z, 1, none⟩ = false :=
  ⟨cell_of_heap h 0 _ rfl, cell_of_heap h 1 _ rfl, free_of_heap h 0, free_of_heap h 1⟩
/-- A struct result that lies in a block. -/

theorem res_sp {fn : Func} {p : Tmp} (hr : fn.results = #[.cell p 79]) (tm : Array Value) (b : Nat) (W : World) (x y : Value) (hp : tm.getD p undef = .pointer (some ⟨b, 0, none⟩)) (hc : W.heap[b]? = some (.cells #[x, y] 79 (0, 0))) : (results fn tm).run Tryd.prog W = .ok (.agg #[x, y]) W :=
  results_cell_row hr _ _ _ _ _ _ _ hp hc Tryd.underlying79 rfl (by kernel_rfl)
/-- Three blocks laid: two spans and the result's. -/

theorem three (w : World) (a b c d : Int) : ∃ w0, w0 = ((w.alloc (Obj.cells #[.int .i64 a, .int .i64 b] 79)).alloc (Obj.cells #[.int .i64 c, .int .i64 d] 79)).alloc (Obj.cells #[.int .i64 0, .int .i64 0] 79) ∧ Hid (Below w.heap.size w w0) ∧
    (w0.cell? ⟨w.heap.size, 0, none⟩ = some (.int .i64 a) ∧ w0.cell? ⟨w.heap.size, 1, none⟩ = some (.int .i64 b) ∧ w0.cell? ⟨w.heap.size + 1, 0, none⟩ = some (.int .i64 c) ∧ w0.cell? ⟨w.heap.size + 1, 1, none⟩ = some (.int .i64 d)) ∧
    Hid (w0.heap[w.heap.size + 1 + 1]? = some (.cells #[.int .i64 0, .int .i64 0] 79 (0, 0))) := by
  obtain ⟨w0, hw0⟩ : ∃ w0, w0 = ((w.alloc (Obj.cells #[.int .i64 a, .int .i64 b] 79)).alloc (Obj.cells #[.int .i64 c, .int .i64 d] 79)).alloc (Obj.cells #[.int .i64 0, .int .i64 0] 79) := ⟨_, rfl⟩
  have hr : w0.heap[w.heap.size + 1 + 1]? = some (.cells #[.int .i64 0, .int .i64 0] 79 (0, 0)) := by
    have := heap_alloc_new ((w.alloc (Obj.cells #[.int .i64 a, .int .i64 b] 79)).alloc (Obj.cells #[.int .i64 c, .int .i64 d] 79)) (Obj.cells #[.int .i64 0, .int .i64 0] 79)
    rw [World.size_alloc, World.size_alloc, ← hw0] at this
    exact this
  have ha : w0.heap[w.heap.size]? = some (.cells #[.int .i64 a, .int .i64 b] 79 (0, 0)) := by
    rw [hw0, Below.heap_alloc _ _ _ (by simp; omega), Below.heap_alloc _ _ _ (by simp)]; exact heap_alloc_new w _
  have hc : w0.heap[w.heap.size + 1]? = some (.cells #[.int .i64 c, .int .i64 d] 79 (0, 0)) := by
    have := heap_alloc_new (w.alloc (Obj.cells #[.int .i64 a, .int .i64 b] 79)) (Obj.cells #[.int .i64 c, .int .i64 d] 79)
    rw [World.size_alloc] at this
    rw [hw0, Below.heap_alloc _ _ _ (by simp)]; exact this
  refine ⟨w0, hw0, ?_, ⟨cell_of_heap ha 0 _ rfl, cell_of_heap ha 1 _ rfl, cell_of_heap hc 0 _ rfl, cell_of_heap hc 1 _ rfl⟩, hr⟩
  rw [hw0]
  exact (((Below.refl _ _).alloc (Nat.le_refl _) _).alloc (by simp) _).alloc (by simp; omega) _
/-- Two: a span and the result's. -/

theorem two (w : World) (a b : Int) : ∃ w0, w0 = (w.alloc (Obj.cells #[.int .i64 a, .int .i64 b] 79)).alloc (Obj.cells #[.int .i64 0, .int .i64 0] 79) ∧ Hid (Below w.heap.size w w0) ∧
    (w0.cell? ⟨w.heap.size, 0, none⟩ = some (.int .i64 a) ∧ w0.cell? ⟨w.heap.size, 1, none⟩ = some (.int .i64 b)) ∧
    Hid (w0.heap[w.heap.size + 1]? = some (.cells #[.int .i64 0, .int .i64 0] 79 (0, 0))) := by
  obtain ⟨w0, hw0⟩ : ∃ w0, w0 = (w.alloc (Obj.cells #[.int .i64 a, .int .i64 b] 79)).alloc (Obj.cells #[.int .i64 0, .int .i64 0] 79) := ⟨_, rfl⟩
  have hr : w0.heap[w.heap.size + 1]? = some (.cells #[.int .i64 0, .int .i64 0] 79 (0, 0)) := by
    have := heap_alloc_new (w.alloc (Obj.cells #[.int .i64 a, .int .i64 b] 79)) (Obj.cells #[.int .i64 0, .int .i64 0] 79)
    rw [World.size_alloc, ← hw0] at this
    exact this
  have ha : w0.heap[w.heap.size]? = some (.cells #[.int .i64 a, .int .i64 b] 79 (0, 0)) := by
    rw [hw0, Below.heap_alloc _ _ _ (by simp)]; exact heap_alloc_new w _
  refine ⟨w0, hw0, ?_, ⟨cell_of_heap ha 0 _ rfl, cell_of_heap ha 1 _ rfl⟩, hr⟩
  rw [hw0]
  exact ((Below.refl _ _).alloc (Nat.le_refl _) _).alloc (by simp) _

end Go.Proofs.YtncjlcgndhodmabDoor.Sn
