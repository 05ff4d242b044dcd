/-
  The document's answers for layer 9: Right, Places. No condition.
-/
import Derived.Test.YtadimbpgdihjlabDoorSuSp
namespace Go.Proofs.YtadimbpgdihjlabDoor.Su
open Go.ChangeShapes Go.WideShapes Go.ChangeAt Go.RowKit

set_option maxRecDepth 100000
set_option maxHeartbeats 1000000

theorem refright_any (s j : Int) (w : World) : Calls Tryd.prog 23 #[.agg #[.int .i64 s, .int .i64 j]] w fun r w' => r = .returned (.bool (decide (RightP s j))) ∧ Below w.heap.size w w' := by
  have HB0 : Hid (Below w.heap.size w (w.alloc (.cells #[.int .i64 s, .int .i64 j] 31))) := (Below.refl _ _).alloc (Nat.le_refl _) _
  by_cases h1 : 8 ≤ j
  · by_cases h2 : j ≤ 512
    · by_cases h3 : s ≤ 2048
      · have HD : Hid (decide (RightP s j) = decide (1 + j + 1 + 4 + 1 ≤ s)) := decide_eq_decide.2 (by unfold RightP; omega)
        go_enter Tryd.func23, Tryd.ntmps23
        go_wp2
        go_ret
        exact ⟨by rw [HD.out]; rfl, HB0.out⟩
      · have HD : Hid (decide (RightP s j) = false) := decide_eq_false (fun h => h3 h.2.2.1)
        go_enter Tryd.func23, Tryd.ntmps23
        go_wp2
        go_ret
        exact ⟨by rw [HD.out]; rfl, HB0.out⟩
    · have HD : Hid (decide (RightP s j) = false) := decide_eq_false (fun h => h2 h.2.1)
      go_enter Tryd.func23, Tryd.ntmps23
      go_wp2
      go_ret
      exact ⟨by rw [HD.out]; rfl, HB0.out⟩
  · have HD : Hid (decide (RightP s j) = false) := decide_eq_false (fun h => h1 h.1)
    go_enter Tryd.func23, Tryd.ntmps23
    go_wp2
    go_ret
    exact ⟨by rw [HD.out]; rfl, HB0.out⟩

def placesF (s j : Int) : Value := if RightP s j then .agg #[.int .i64 1, .int .i64 (1 + j), .int .i64 (2 + j), .int .i64 (6 + j)] else .agg #[.int .i64 0, .int .i64 0, .int .i64 0, .int .i64 0]
theorem set4_heap {w : World} {z : Nat} {a0 a1 a2 a3 : Value} {t : TypeId} (h : w.heap[z]? = some (.cells #[a0, a1, a2, a3] t (0, 0))) (v0 v1 v2 v3 : Value) : ((((w.setCell ⟨z, 0, none⟩ v0).setCell ⟨z, 1, none⟩ v1).setCell ⟨z, 2, none⟩ v2).setCell ⟨z, 3, none⟩ v3).heap[z]? = some (.cells #[v0, v1, v2, v3] t (0, 0)) := by
  have h0 := heap_setCell_same w z 0 _ t v0 h
  have h1 := heap_setCell_same _ z 1 _ t v1 h0
  have h2 := heap_setCell_same _ z 2 _ t v2 h1
  exact heap_setCell_same _ z 3 _ t v3 h2
theorem set4_below {B : Nat} {w0 w : World} (h : Below B w0 w) (z : Nat) (hb : B ≤ z) (v0 v1 v2 v3 : Value) : Below B w0 ((((w.setCell ⟨z, 0, none⟩ v0).setCell ⟨z, 1, none⟩ v1).setCell ⟨z, 2, none⟩ v2).setCell ⟨z, 3, none⟩ v3) :=
  (((h.setCell (p := ⟨z, 0, none⟩) hb _).setCell (p := ⟨z, 1, none⟩) hb _).setCell (p := ⟨z, 2, none⟩) hb _).setCell (p := ⟨z, 3, none⟩) hb _
theorem free_of_heap {w : World} {b : Nat} {c : Array Value} {t : TypeId} (h : w.heap[b]? = some (.cells c t (0, 0))) (i : Nat) : w.frozen? ⟨b, i, none⟩ = false := by
  simp [World.frozen?, h]

end Go.Proofs.YtadimbpgdihjlabDoor.Su
