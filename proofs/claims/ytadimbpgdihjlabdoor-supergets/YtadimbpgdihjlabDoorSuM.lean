/-
  Layer 9's layouts: which are right, where everything is. No condition.
-/
import Derived.Test.YtadimbpgdihjlabDoorRows
import Derived.WalkKit
import Derived.ProofKit
import Derived.OpenShut
import Derived.Below
import Derived.Deep.RegionHeld3
import Derived.RegionTactic
import Derived.BigRegion
namespace Go.Proofs.YtadimbpgdihjlabDoor.Su
open Go.ChangeShapes Go.WideShapes Go.ChangeAt Go.RowKit

set_option maxRecDepth 100000
set_option maxHeartbeats 1000000

theorem lt_of_heap {w : World} {b : Nat} {o : Obj} (h : w.heap[b]? = some o) : b < w.heap.size := by
  rcases Nat.lt_or_ge b w.heap.size with hl | hl
  · exact hl
  · rw [Array.getElem?_eq_none hl] at h; cases h
theorem cell_of_heap {w : World} {b : Nat} {c : Array Value} {t : TypeId} (h : w.heap[b]? = some (.cells c t (0, 0))) (i : Nat) (v : Value) (hv : c[i]? = some v) : w.cell? ⟨b, i, none⟩ = some v := by
  simp [World.cell?, h, hv]

/-- A layout's value. -/
def lay (s j : Int) : Value := .agg #[.int .i64 s, .int .i64 j]
/-- Which layouts are right. -/
def RightP (s j : Int) : Prop := 8 ≤ j ∧ j ≤ 512 ∧ s ≤ 2048 ∧ 6 + j < s
instance (s j : Int) : Decidable (RightP s j) := by unfold RightP; infer_instance

theorem setAt_any (s j : Int) (w : World) (h : 0 ≤ j ∧ j ≤ 4096) : Calls Tryd.prog 28 #[.agg #[.int .i64 s, .int .i64 j]] w fun r w' => r = .returned (.int .i64 (1 + j)) ∧ Below w.heap.size w w' := by
  obtain ⟨h0, h1⟩ := h
  go_enter Tryd.func28, Tryd.ntmps28
  go_wp2
  go_ret
  exact ⟨rfl, (Below.refl _ _).alloc (Nat.le_refl _) _⟩

theorem inodesAt_any (s j : Int) (w : World) (h : 0 ≤ j ∧ j ≤ 4096) : Calls Tryd.prog 41 #[.agg #[.int .i64 s, .int .i64 j]] w fun r w' => r = .returned (.int .i64 (2 + j)) ∧ Below w.heap.size w w' := by
  have hs := setAt_any s j (w.alloc (.cells #[.int .i64 s, .int .i64 j] 26)) h
  obtain ⟨h0, h1⟩ := h
  go_enter Tryd.func41, Tryd.ntmps41
  go_wp2_with fail
  refine hs.mono ?_
  rintro r w1 ⟨rfl, hb⟩
  have HB : Hid (Below w.heap.size w w1) := ((Below.refl _ _).alloc (Nat.le_refl _) _).trans (hb.mono (by simp))
  have e1 : 1 + j + 1 = 2 + j := by omega
  clear hb
  go_wp2
  go_ret
  exact ⟨by rfl, HB.out⟩

theorem dataAt_any (s j : Int) (w : World) (h : 0 ≤ j ∧ j ≤ 4096) : Calls Tryd.prog 27 #[.agg #[.int .i64 s, .int .i64 j]] w fun r w' => r = .returned (.int .i64 (6 + j)) ∧ Below w.heap.size w w' := by
  have hs := inodesAt_any s j (w.alloc (.cells #[.int .i64 s, .int .i64 j] 26)) h
  obtain ⟨h0, h1⟩ := h
  go_enter Tryd.func27, Tryd.ntmps27
  go_wp2_with fail
  refine hs.mono ?_
  rintro r w1 ⟨rfl, hb⟩
  have HB : Hid (Below w.heap.size w w1) := ((Below.refl _ _).alloc (Nat.le_refl _) _).trans (hb.mono (by simp))
  have e1 : 2 + j + 4 = 6 + j := by omega
  clear hb
  go_wp2
  go_ret
  exact ⟨by rfl, HB.out⟩

end Go.Proofs.YtadimbpgdihjlabDoor.Su
