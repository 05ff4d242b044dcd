/-
  Layer 18's law: its spans, a number of one, Within. No condition.
-/
import Derived.Test.YtgfbcekmnpdoeaaSnT
namespace Go.Proofs.Ytgfbcekmnpdoeaa.Sn
open Go.ChangeShapes Go.WideShapes Go.ChangeAt Go.RowKit
open Go.Proofs.Ytgfbcekmnpdoeaa.Nv (lt_of_heap lt_of_cell cell_of_heap free_of_heap)

set_option maxRecDepth 100000
set_option maxHeartbeats 1000000

theorem made_any (a b : Int) (w : World) : Calls Try.prog 22 #[.agg #[.int .i64 a, .int .i64 b]] w fun r w' => r = .returned (.agg #[.int .i64 (mnF (capF a) (capF b)), .int .i64 (mxF (capF a) (capF b))]) ∧ Below w.heap.size w w' := by
  obtain ⟨w0, hw0⟩ : ∃ w0, w0 = (w.alloc (Obj.cells #[.int .i64 a, .int .i64 b] 60)).alloc (Obj.cells #[.int .i64 0, .int .i64 0] 63) := ⟨_, rfl⟩
  have hr : w0.heap[w.heap.size + 1]? = some (.cells #[.int .i64 0, .int .i64 0] 63 (0, 0)) := by
    have := heap_alloc_new (w.alloc (Obj.cells #[.int .i64 a, .int .i64 b] 60)) (Obj.cells #[.int .i64 0, .int .i64 0] 63)
    rw [World.size_alloc, ← hw0] at this
    exact this
  have ha : w0.heap[w.heap.size]? = some (.cells #[.int .i64 a, .int .i64 b] 60 (0, 0)) := by
    rw [hw0, Below.heap_alloc _ _ _ (by simp)]; exact heap_alloc_new w _
  have HB0 : Hid (Below w.heap.size w w0) := by rw [hw0]; exact ((Below.refl _ _).alloc (Nat.le_refl _) _).alloc (by simp) _
  have HR0 : Hid (w0.heap[w.heap.size + 1]? = some (.cells #[.int .i64 0, .int .i64 0] 63 (0, 0))) := hr
  have c0 := cell_of_heap ha 0 _ rfl
  have c1 := cell_of_heap ha 1 _ rfl
  obtain ⟨m, hm⟩ : ∃ m, mnF (capF a) (capF b) = m := ⟨_, rfl⟩
  obtain ⟨k, hk⟩ : ∃ m, mxF (capF a) (capF b) = m := ⟨_, rfl⟩
  rw [hm, hk]
  have HA := fun w => refcap_any a w
  have HB := fun w => refcap_any b w
  unfold mnF at hm
  unfold mxF at hk
  generalize capF a = x at *
  generalize capF b = y at *
  clear hr ha
  go_enter Try.func22, Try.ntmps22
  go_wp2_with fail
  rw [← hw0]
  clear hw0
  refine wp_region_held_drew (S := fun W => W.cell? ⟨w.heap.size, 0, none⟩ = some (.int .i64 a) ∧ W.cell? ⟨w.heap.size, 1, none⟩ = some (.int .i64 b)) (by kernel_rfl) (by exact ⟨c0, c1⟩) (fun hHeld => ?_)
  change wpAnyH _ _ _ _ _ 8 (Array.replicate 8 false) _ _
  refine wpAnyH_take (i := 0) (oi := _) (v := _) (by simp only [List.getElem?_toArray, List.getElem?_cons_zero]; rfl) (by kernel_rfl) (by kernel_rfl) (by kernel_rfl) (by exact fun _ _ _ h => h) (Or.inl ⟨by rfl, by intro w' hSw; (try dsimp only at hSw); first | (go_simp; done) | (go_simp; with_reducible rfl)⟩) hHeld ?_
  simp only [Act.put, List.setIfInBounds_toArray, List.set_cons_zero, List.set_cons_succ]
  refine wpAnyH_take (i := 1) (oi := _) (v := _) (by simp only [List.getElem?_toArray, List.getElem?_cons_succ, List.getElem?_cons_zero]; rfl) (by kernel_rfl) (by kernel_rfl) (by kernel_rfl) (by exact fun _ _ _ h => h) (Or.inl ⟨by rfl, by intro w' hSw; (try dsimp only at hSw); first | (go_simp; done) | (go_simp; with_reducible rfl)⟩) hHeld ?_
  simp only [Act.put, List.setIfInBounds_toArray, List.set_cons_zero, List.set_cons_succ]
  refine wpAnyH_take (i := 3) (oi := _) (v := _) (by simp only [List.getElem?_toArray, List.getElem?_cons_succ, List.getElem?_cons_zero]; rfl) (by kernel_rfl) (by kernel_rfl) (by kernel_rfl) (by exact fun _ _ _ h => h) (Or.inl ⟨by rfl, by intro w' hSw; (try dsimp only at hSw); first | (go_simp; done) | (go_simp; with_reducible rfl)⟩) hHeld ?_
  simp only [Act.put, List.setIfInBounds_toArray, List.set_cons_zero, List.set_cons_succ]
  refine wpAnyH_take (i := 4) (oi := _) (v := _) (by simp only [List.getElem?_toArray, List.getElem?_cons_succ, List.getElem?_cons_zero]; rfl) (by kernel_rfl) (by kernel_rfl) (by kernel_rfl) (by exact fun _ _ _ h => h) (Or.inl ⟨by rfl, by intro w' hSw; (try dsimp only at hSw); first | (go_simp; done) | (go_simp; with_reducible rfl)⟩) hHeld ?_
  simp only [Act.put, List.setIfInBounds_toArray, List.set_cons_zero, List.set_cons_succ]
  refine wpAnyH_ready (rs := [2]) (by kernel_rfl) (by simp) ?_
  refine AllReadyH.cons rfl (fun K hK => ?_) AllReadyH.nil
  go_simp
  go_wp2_with fail
  refine (HA _).mono ?_
  rintro r w1 ⟨rfl, hw1⟩
  have HR1 : Hid (w1.heap[w.heap.size + 1]? = some (.cells #[.int .i64 0, .int .i64 0] 63 (0, 0))) := by rw [hw1]; exact HR0.out
  have HB1 : Hid (Below w.heap.size w w1) := by rw [hw1]; first | exact HB0.out.drew | exact HB0.out
  refine hK.out _ _ (by rw [hw1]; exact hHeld) (fun hHeld => ?_)
  clear hK K hw1
  refine wpAnyH_ready (rs := [5]) (by kernel_rfl) (by simp) ?_
  refine AllReadyH.cons rfl (fun K hK => ?_) AllReadyH.nil
  go_simp
  go_wp2_with fail
  refine (HB _).mono ?_
  rintro r w2 ⟨rfl, hw2⟩
  have HR2 : Hid (w2.heap[w.heap.size + 1]? = some (.cells #[.int .i64 0, .int .i64 0] 63 (0, 0))) := by rw [hw2]; exact HR1.out
  have HB2 : Hid (Below w.heap.size w w2) := by rw [hw2]; first | exact HB1.out.drew | exact HB1.out
  refine hK.out _ _ (by rw [hw2]; exact hHeld) (fun hHeld => ?_)
  clear hK K hw2
  refine wpAnyH_take (i := 6) (oi := _) (v := _) (by simp only [List.getElem?_toArray, List.getElem?_cons_succ, List.getElem?_cons_zero]; rfl) (by kernel_rfl) (by kernel_rfl) (by kernel_rfl) (by exact fun _ _ _ h => h) (Or.inl ⟨by rfl, by intro w' hSw; (try dsimp only at hSw); first | (go_simp; done) | (go_simp; with_reducible rfl)⟩) hHeld ?_
  simp only [Act.put, List.setIfInBounds_toArray, List.set_cons_zero, List.set_cons_succ]
  refine wpAnyH_take (i := 7) (oi := _) (v := _) (by simp only [List.getElem?_toArray, List.getElem?_cons_succ, List.getElem?_cons_zero]; rfl) (by kernel_rfl) (by kernel_rfl) (by kernel_rfl) (by exact fun _ _ _ h => h) (Or.inl ⟨by rfl, by intro w' hSw; (try dsimp only at hSw); first | (go_simp; done) | (go_simp; with_reducible rfl)⟩) hHeld ?_
  simp only [Act.put, List.setIfInBounds_toArray, List.set_cons_zero, List.set_cons_succ]
  refine wpAnyH_done (by kernel_rfl) ?_ _
  obtain ⟨y0, y1, f0, f1⟩ := agg2 HR2.out
  clear HA HB hHeld c0 c1
  go_wp2
  refine bodyPost_ret (res_sp rfl _ (w.heap.size + 1) _ _ _ rfl (set2_heap HR2.out _ _)) rfl ?_
  exact ⟨rfl, set2_below HB2.out _ (by omega) _ _⟩

theorem speaks_any (w : World) : Calls Try.prog 21 #[] w fun r w' => r = .returned (.bool true) ∧ Below w.heap.size w w' := by
  have HA := fun w => add_any 1 3 10 20 w (by decide) (by decide) (by decide) (by decide)
  rw [show capF (1 + 10) = 11 by decide, show capF (3 + 20) = 23 by decide] at HA
  have HT := fun w => top_any w
  go_enter Try.func21, Try.ntmps21
  go_wp2_with fail
  refine (HA _).mono ?_
  rintro r w1 ⟨rfl, hb1⟩
  go_wp2_with fail
  refine (HT _).mono ?_
  rintro r w2 ⟨rfl, hb2⟩
  have hfd : ∀ w : World, (Instr.field 63 (.agg #[.int .i64 (-1099511627776), .int .i64 1099511627776]) 1).run Try.prog w = .ok (.int .i64 1099511627776) w := fun _ => by kernel_rfl
  go_wp2
  go_ret
  exact ⟨rfl, hb1.trans (hb2.mono hb1.size)⟩

theorem one_any (n : Int) (w : World) : Calls Try.prog 28 #[.int .i64 n] w fun r w' => r = .returned (.agg #[.int .i64 (capF n), .int .i64 (capF n)]) ∧ Below w.heap.size w w' := by
  go_enter Try.func28, Try.ntmps28
  go_wp2_with fail
  refine (cap_any n _).mono ?_
  rintro r w1 ⟨rfl, hw1⟩
  have HB1 : Hid (Below w.heap.size w w1) := by rw [hw1]; exact (Below.refl _ _).alloc (Nat.le_refl _) _
  have HR1 : w1.heap[w.heap.size]? = some (.cells #[.int .i64 0, .int .i64 0] 63 (0, 0)) := by rw [hw1]; exact heap_alloc_new w _
  clear hw1
  go_wp2_with fail
  refine (cap_any n _).mono ?_
  rintro r w2 ⟨rfl, hw2⟩
  subst hw2
  obtain ⟨y0, y1, f0, f1⟩ := agg2 HR1
  go_wp2
  refine bodyPost_ret (res_sp rfl _ (w.heap.size) _ _ _ rfl (set2_heap HR1 _ _)) rfl ?_
  exact ⟨rfl, set2_below HB1.out _ (Nat.le_refl _) _ _⟩

theorem of_any (lo hi n : Int) (w : World) (h1 : -1099511627776 ≤ lo ∧ lo ≤ hi ∧ hi ≤ 1099511627776) :
    Calls Try.prog 23 #[.agg #[.int .i64 lo, .int .i64 hi], .int .i64 n] w fun r w' => ∃ x, r = .returned (.int .i64 x) ∧ lo ≤ x ∧ x ≤ hi ∧ Below w.heap.size w w' := by
  have HB : Hid (Below w.heap.size w (w.alloc (Obj.cells #[Value.int IntKind.i64 lo, Value.int IntKind.i64 hi] 63))) := (Below.refl _ _).alloc (Nat.le_refl _) _
  have ha := heap_alloc_new w (Obj.cells #[Value.int IntKind.i64 lo, Value.int IntKind.i64 hi] 63)
  have c0 := cell_of_heap ha 0 _ rfl
  have c1 := cell_of_heap ha 1 _ rfl
  obtain ⟨s, hs⟩ : ∃ s, hi - lo + 1 = s := ⟨_, rfl⟩
  have hq1 : IntKind.i64.wrap (hi - lo + 1) = s := (IntWalk.i64_in _ (by omega)).trans hs
  have hqa : wrap64 (hi - lo) = hi - lo := by unfold wrap64; omega
  have hqb : wrap64 (hi - lo + 1) = s := by unfold wrap64; omega
  have hz : (s == 0) = false := by rw [beq_eq_false_iff_ne]; omega
  have hz0 : ¬ s = 0 := by omega
  have hs0 : 0 < s := by omega
  obtain ⟨r1, hr1, hr2, hr3⟩ : ∃ r, n.tmod s = r ∧ -s < r ∧ r < s := ⟨_, rfl, by have := Int.lt_tmod_of_pos n hs0; omega, Int.tmod_lt_of_pos n hs0⟩
  have hq2 : IntKind.i64.wrap (r1 + s) = r1 + s := IntWalk.i64_in _ (by omega)
  obtain ⟨r2, hr4, hr5, hr6⟩ : ∃ r, (r1 + s).tmod s = r ∧ 0 ≤ r ∧ r < s := ⟨_, rfl, Int.tmod_nonneg _ (by omega), Int.tmod_lt_of_pos _ hs0⟩
  have HX : Hid (lo ≤ lo + r2 ∧ lo + r2 ≤ hi) := ⟨by omega, by omega⟩
  have hq3 : IntKind.i64.wrap (lo + r2) = lo + r2 := IntWalk.i64_in _ (by omega)
  clear ha hs hs0 h1 hr2 hr3 hr5 hr6
  go_enter Try.func23, Try.ntmps23
  go_wp2_with fail
  generalize w.alloc (Obj.cells #[Value.int IntKind.i64 lo, Value.int IntKind.i64 hi] 63) = w0 at *
  refine wp_region_held_drew (S := fun W => W.cell? ⟨w.heap.size, 0, none⟩ = some (.int .i64 lo)) (by kernel_rfl) (by exact c0) (fun hHeld => ?_)
  change wpAnyH _ _ _ _ _ 11 (Array.replicate 11 false) _ _
  refine wpAnyH_take (i := 0) (oi := _) (v := _) (by simp only [List.getElem?_toArray, List.getElem?_cons_zero]; rfl) (by kernel_rfl) (by kernel_rfl) (by kernel_rfl) (by exact fun _ _ _ h => h) (Or.inl ⟨by rfl, by intro w' hSw; (try dsimp only at hSw); first | (go_simp; done) | (go_simp; with_reducible rfl)⟩) hHeld ?_
  simp only [Act.put, List.setIfInBounds_toArray, List.set_cons_zero, List.set_cons_succ]
  refine wpAnyH_take (i := 1) (oi := _) (v := _) (by simp only [List.getElem?_toArray, List.getElem?_cons_succ, List.getElem?_cons_zero]; rfl) (by kernel_rfl) (by kernel_rfl) (by kernel_rfl) (by exact fun _ _ _ h => h) (Or.inl ⟨by rfl, by intro w' hSw; (try dsimp only at hSw); first | (go_simp; done) | (go_simp; with_reducible rfl)⟩) hHeld ?_
  simp only [Act.put, List.setIfInBounds_toArray, List.set_cons_zero, List.set_cons_succ]
  refine wpAnyH_take (i := 2) (oi := _) (v := _) (by simp only [List.getElem?_toArray, List.getElem?_cons_succ, List.getElem?_cons_zero]; rfl) (by kernel_rfl) (by kernel_rfl) (by kernel_rfl) (by exact fun _ _ _ h => h) (Or.inl ⟨by rfl, by intro w' hSw; (try dsimp only at hSw); first | (go_simp; done) | (go_simp; with_reducible rfl)⟩) hHeld ?_
  simp only [Act.put, List.setIfInBounds_toArray, List.set_cons_zero, List.set_cons_succ]
  refine wpAnyH_take (i := 3) (oi := _) (v := _) (by simp only [List.getElem?_toArray, List.getElem?_cons_succ, List.getElem?_cons_zero]; rfl) (by kernel_rfl) (by kernel_rfl) (by kernel_rfl) (by exact fun _ _ _ h => h) (Or.inl ⟨by rfl, by intro w' hSw; (try dsimp only at hSw); first | (go_simp; done) | (go_simp; with_reducible rfl)⟩) hHeld ?_
  simp only [Act.put, List.setIfInBounds_toArray, List.set_cons_zero, List.set_cons_succ]
  refine wpAnyH_take (i := 4) (oi := _) (v := _) (by simp only [List.getElem?_toArray, List.getElem?_cons_succ, List.getElem?_cons_zero]; rfl) (by kernel_rfl) (by kernel_rfl) (by kernel_rfl) (by exact fun _ _ _ h => h) (Or.inl ⟨by rfl, by intro w' hSw; (try dsimp only at hSw); first | (go_simp; done) | (go_simp; with_reducible rfl)⟩) hHeld ?_
  simp only [Act.put, List.setIfInBounds_toArray, List.set_cons_zero, List.set_cons_succ]
  refine wpAnyH_take (i := 5) (oi := _) (v := _) (by simp only [List.getElem?_toArray, List.getElem?_cons_succ, List.getElem?_cons_zero]; rfl) (by kernel_rfl) (by kernel_rfl) (by kernel_rfl) (by exact fun _ _ _ h => h) (Or.inl ⟨by rfl, by intro w' hSw; (try dsimp only at hSw); first | (go_simp; done) | (go_simp; with_reducible rfl)⟩) hHeld ?_
  simp only [Act.put, List.setIfInBounds_toArray, List.set_cons_zero, List.set_cons_succ]
  refine wpAnyH_take (i := 6) (oi := _) (v := _) (by simp only [List.getElem?_toArray, List.getElem?_cons_succ, List.getElem?_cons_zero]; rfl) (by kernel_rfl) (by kernel_rfl) (by kernel_rfl) (by exact fun _ _ _ h => h) (Or.inl ⟨by rfl, by intro w' hSw; (try dsimp only at hSw); first | (go_simp; done) | (go_simp; with_reducible rfl)⟩) hHeld ?_
  simp only [Act.put, List.setIfInBounds_toArray, List.set_cons_zero, List.set_cons_succ]
  refine wpAnyH_take (i := 7) (oi := _) (v := _) (by simp only [List.getElem?_toArray, List.getElem?_cons_succ, List.getElem?_cons_zero]; rfl) (by kernel_rfl) (by kernel_rfl) (by kernel_rfl) (by exact fun _ _ _ h => h) (Or.inl ⟨by rfl, by intro w' hSw; (try dsimp only at hSw); first | (go_simp; done) | (go_simp; with_reducible rfl)⟩) hHeld ?_
  simp only [Act.put, List.setIfInBounds_toArray, List.set_cons_zero, List.set_cons_succ]
  refine wpAnyH_take (i := 8) (oi := _) (v := _) (by simp only [List.getElem?_toArray, List.getElem?_cons_succ, List.getElem?_cons_zero]; rfl) (by kernel_rfl) (by kernel_rfl) (by kernel_rfl) (by exact fun _ _ _ h => h) (Or.inl ⟨by rfl, by intro w' hSw; (try dsimp only at hSw); first | (go_simp; done) | (go_simp; with_reducible rfl)⟩) hHeld ?_
  simp only [Act.put, List.setIfInBounds_toArray, List.set_cons_zero, List.set_cons_succ]
  refine wpAnyH_take (i := 9) (oi := _) (v := _) (by simp only [List.getElem?_toArray, List.getElem?_cons_succ, List.getElem?_cons_zero]; rfl) (by kernel_rfl) (by kernel_rfl) (by kernel_rfl) (by exact fun _ _ _ h => h) (Or.inl ⟨by rfl, by intro w' hSw; (try dsimp only at hSw); first | (go_simp; done) | (go_simp; with_reducible rfl)⟩) hHeld ?_
  simp only [Act.put, List.setIfInBounds_toArray, List.set_cons_zero, List.set_cons_succ]
  refine wpAnyH_take (i := 10) (oi := _) (v := _) (by simp only [List.getElem?_toArray, List.getElem?_cons_succ, List.getElem?_cons_zero]; rfl) (by kernel_rfl) (by kernel_rfl) (by kernel_rfl) (by exact fun _ _ _ h => h) (Or.inl ⟨by rfl, by intro w' hSw; (try dsimp only at hSw); first | (go_simp; done) | (go_simp; with_reducible rfl)⟩) hHeld ?_
  simp only [Act.put, List.setIfInBounds_toArray, List.set_cons_zero, List.set_cons_succ]
  refine wpAnyH_done (by kernel_rfl) ?_ _
  go_wp2
  go_ret
  exact ⟨lo + r2, rfl, HX.out.1, HX.out.2, HB.out.drew⟩

end Go.Proofs.Ytgfbcekmnpdoeaa.Sn
