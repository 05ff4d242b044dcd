/-
  The document's answers for layer 9: Right, Places. No condition.
-/
import Derived.Test.YtadimbpgdihjlaaSuSp
namespace Go.Proofs.Ytadimbpgdihjlaa.Su
open Go.ChangeShapes Go.WideShapes Go.ChangeAt Go.RowKit

set_option maxRecDepth 100000
set_option maxHeartbeats 1000000

theorem refright_any (s j : Int) (w : World) : Calls Try.prog 6 #[.agg #[.int .i64 s, .int .i64 j]] w fun r w' => r = .returned (.bool (decide (RightP s j))) ∧ Below w.heap.size w w' := by
  have HB0 : Hid (Below w.heap.size w (w.alloc (.cells #[.int .i64 s, .int .i64 j] 25))) := (Below.refl _ _).alloc (Nat.le_refl _) _
  by_cases h1 : 8 ≤ j
  · by_cases h2 : j ≤ 512
    · by_cases h3 : s ≤ 2048
      · have HD : Hid (decide (RightP s j) = decide (1 + j + 1 + 4 + 1 ≤ s)) := decide_eq_decide.2 (by unfold RightP; omega)
        go_enter Try.func6, Try.ntmps6
        go_wp2
        go_ret
        exact ⟨by rw [HD.out]; rfl, HB0.out⟩
      · have HD : Hid (decide (RightP s j) = false) := decide_eq_false (fun h => h3 h.2.2.1)
        go_enter Try.func6, Try.ntmps6
        go_wp2
        go_ret
        exact ⟨by rw [HD.out]; rfl, HB0.out⟩
    · have HD : Hid (decide (RightP s j) = false) := decide_eq_false (fun h => h2 h.2.1)
      go_enter Try.func6, Try.ntmps6
      go_wp2
      go_ret
      exact ⟨by rw [HD.out]; rfl, HB0.out⟩
  · have HD : Hid (decide (RightP s j) = false) := decide_eq_false (fun h => h1 h.1)
    go_enter Try.func6, Try.ntmps6
    go_wp2
    go_ret
    exact ⟨by rw [HD.out]; rfl, HB0.out⟩

theorem res_places (tm : Array Value) (rb : Nat) (W : World) (a b c d : Int) (h2 : tm[2]? = some (.pointer (some ⟨rb, 0, none⟩))) (h : W.heap[rb]? = some (.cells #[.int .i64 a, .int .i64 b, .int .i64 c, .int .i64 d] 26 (0, 0))) :
    (results Try.f5 tm).run Try.prog W = .ok (.agg #[.int .i64 a, .int .i64 b, .int .i64 c, .int .i64 d]) W := by
  have c0 := cell_of_heap h 0 _ rfl
  have c1 := cell_of_heap h 1 _ rfl
  have c2 := cell_of_heap h 2 _ rfl
  have c3 := cell_of_heap h 3 _ rfl
  clear h
  simp [results, Try.f5, go_sem, h2, c0, c1, c2, c3]

def placesF (s j : Int) : Value := if RightP s j then .agg #[.int .i64 1, .int .i64 (1 + j), .int .i64 (2 + j), .int .i64 (6 + j)] else .agg #[.int .i64 0, .int .i64 0, .int .i64 0, .int .i64 0]
theorem set4_heap {w : World} {z : Nat} {a0 a1 a2 a3 : Value} {t : TypeId} (h : w.heap[z]? = some (.cells #[a0, a1, a2, a3] t (0, 0))) (v0 v1 v2 v3 : Value) : ((((w.setCell ⟨z, 0, none⟩ v0).setCell ⟨z, 1, none⟩ v1).setCell ⟨z, 2, none⟩ v2).setCell ⟨z, 3, none⟩ v3).heap[z]? = some (.cells #[v0, v1, v2, v3] t (0, 0)) := by
  have h0 := heap_setCell_same w z 0 _ t v0 h
  have h1 := heap_setCell_same _ z 1 _ t v1 h0
  have h2 := heap_setCell_same _ z 2 _ t v2 h1
  exact heap_setCell_same _ z 3 _ t v3 h2
theorem set4_below {B : Nat} {w0 w : World} (h : Below B w0 w) (z : Nat) (hb : B ≤ z) (v0 v1 v2 v3 : Value) : Below B w0 ((((w.setCell ⟨z, 0, none⟩ v0).setCell ⟨z, 1, none⟩ v1).setCell ⟨z, 2, none⟩ v2).setCell ⟨z, 3, none⟩ v3) :=
  (((h.setCell (p := ⟨z, 0, none⟩) hb _).setCell (p := ⟨z, 1, none⟩) hb _).setCell (p := ⟨z, 2, none⟩) hb _).setCell (p := ⟨z, 3, none⟩) hb _
theorem free_of_heap {w : World} {b : Nat} {c : Array Value} {t : TypeId} (h : w.heap[b]? = some (.cells c t (0, 0))) (i : Nat) : w.frozen? ⟨b, i, none⟩ = false := by
  simp [World.frozen?, h]

theorem refplaces_any (s j : Int) (w : World) : Calls Try.prog 5 #[.agg #[.int .i64 s, .int .i64 j]] w fun r w' => r = .returned (placesF s j) ∧ Below w.heap.size w w' := by
  obtain ⟨w0, hw0⟩ : ∃ w0, w0 = (w.alloc (.cells #[.int .i64 s, .int .i64 j] 25)).alloc (.cells #[.int .i64 0, .int .i64 0, .int .i64 0, .int .i64 0] 26) := ⟨_, rfl⟩
  have HS : Hid (LayAt w.heap.size s j w0) := by rw [hw0]; exact (lay_new w s j _).below ((Below.refl _ _).alloc (Nat.le_refl _) _)
  have HB0 : Hid (Below w.heap.size w w0) := by rw [hw0]; exact ((Below.refl _ _).alloc (Nat.le_refl _) _).alloc (by simp) _
  have HR0 : Hid (w0.heap[w.heap.size + 1]? = some (.cells #[.int .i64 0, .int .i64 0, .int .i64 0, .int .i64 0] 26 (0, 0))) := by
    rw [hw0]
    have := heap_alloc_new (w.alloc (.cells #[.int .i64 s, .int .i64 j] 25)) (.cells #[.int .i64 0, .int .i64 0, .int .i64 0, .int .i64 0] 26)
    rw [World.size_alloc] at this
    exact this
  have hr := refright_any s j w0
  by_cases hp : RightP s j
  · rw [show decide (RightP s j) = true from decide_eq_true hp] at hr
    have HF : Hid (placesF s j = .agg #[.int .i64 1, .int .i64 (1 + j), .int .i64 (2 + j), .int .i64 (6 + j)]) := if_pos hp
    have hj : 0 ≤ j ∧ j ≤ 512 := by unfold RightP at hp; omega
    obtain ⟨hj0, hj1⟩ := hj
    clear hp
    go_enter Try.func5, Try.ntmps5
    go_wp2_with fail
    rw [← hw0]
    refine hr.mono ?_
    rintro r w1 ⟨rfl, hb1⟩
    have HB1 : Hid (Below w.heap.size w w1) := HB0.out.trans (hb1.mono HB0.out.size)
    have HR1 : Hid (w1.heap[w.heap.size + 1]? = some (.cells #[.int .i64 0, .int .i64 0, .int .i64 0, .int .i64 0] 26 (0, 0))) := (hb1.block _ (lt_of_heap HR0.out)).trans HR0.out
    obtain ⟨c0, c1⟩ := (HS.out.below hb1).cells
    clear hb1 hr hw0 HS HB0 HR0 w0
    have r0 := cell_of_heap HR1.out 0 _ rfl
    have r1 := cell_of_heap HR1.out 1 _ rfl
    have r2 := cell_of_heap HR1.out 2 _ rfl
    have r3 := cell_of_heap HR1.out 3 _ rfl
    have f0 := free_of_heap HR1.out 0
    have f1 := free_of_heap HR1.out 1
    have f2 := free_of_heap HR1.out 2
    have f3 := free_of_heap HR1.out 3
    go_wp2
    refine bodyPost_ret (res_places _ (w.heap.size + 1) _ 1 (1 + j) (2 + j) (6 + j) rfl (set4_heap HR1.out _ _ _ _)) rfl ?_
    exact ⟨by rw [HF.out], set4_below HB1.out _ (by omega) _ _ _ _⟩
  · rw [show decide (RightP s j) = false from decide_eq_false hp] at hr
    have HF : Hid (placesF s j = .agg #[.int .i64 0, .int .i64 0, .int .i64 0, .int .i64 0]) := if_neg hp
    clear hp
    go_enter Try.func5, Try.ntmps5
    go_wp2_with fail
    rw [← hw0]
    refine hr.mono ?_
    rintro r w1 ⟨rfl, hb1⟩
    have HB1 : Hid (Below w.heap.size w w1) := HB0.out.trans (hb1.mono HB0.out.size)
    have HR1 : Hid (w1.heap[w.heap.size + 1]? = some (.cells #[.int .i64 0, .int .i64 0, .int .i64 0, .int .i64 0] 26 (0, 0))) := (hb1.block _ (lt_of_heap HR0.out)).trans HR0.out
    clear hb1 hr hw0 HS HB0 HR0 w0
    have r0 := cell_of_heap HR1.out 0 _ rfl
    have r1 := cell_of_heap HR1.out 1 _ rfl
    have r2 := cell_of_heap HR1.out 2 _ rfl
    have r3 := cell_of_heap HR1.out 3 _ rfl
    have f0 := free_of_heap HR1.out 0
    have f1 := free_of_heap HR1.out 1
    have f2 := free_of_heap HR1.out 2
    have f3 := free_of_heap HR1.out 3
    go_wp2
    refine bodyPost_ret (res_places _ (w.heap.size + 1) _ 0 0 0 0 rfl (set4_heap HR1.out _ _ _ _)) rfl ?_
    exact ⟨by rw [HF.out], set4_below HB1.out _ (by omega) _ _ _ _⟩

end Go.Proofs.Ytadimbpgdihjlaa.Su
