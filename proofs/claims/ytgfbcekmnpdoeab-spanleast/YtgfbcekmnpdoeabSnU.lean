/-
  Layer 18's law: its spans, a number of one, Within. No condition.
-/
import Derived.Test.YtgfbcekmnpdoeabSnT
namespace Go.Proofs.Ytgfbcekmnpdoeab.Sn
open Go.ChangeShapes Go.WideShapes Go.ChangeAt Go.RowKit
open Go.Proofs.Ytgfbcekmnpdoeab.Nv (lt_of_heap lt_of_cell cell_of_heap free_of_heap)

set_option maxRecDepth 100000
set_option maxHeartbeats 1000000

theorem made_any (a b : Int) (w : World) : Calls Try.prog 7 #[.agg #[.int .i64 a, .int .i64 b]] w fun r w' => r = .returned (.agg #[.int .i64 (mnF (capF a) (capF b)), .int .i64 (mxF (capF a) (capF b))]) ∧ Below w.heap.size w w' := by
  obtain ⟨w0, hw0⟩ : ∃ w0, w0 = (w.alloc (Obj.cells #[.int .i64 a, .int .i64 b] 22)).alloc (Obj.cells #[.int .i64 0, .int .i64 0] 25) := ⟨_, rfl⟩
  have hr : w0.heap[w.heap.size + 1]? = some (.cells #[.int .i64 0, .int .i64 0] 25 (0, 0)) := by
    have := heap_alloc_new (w.alloc (Obj.cells #[.int .i64 a, .int .i64 b] 22)) (Obj.cells #[.int .i64 0, .int .i64 0] 25)
    rw [World.size_alloc, ← hw0] at this
    exact this
  have ha : w0.heap[w.heap.size]? = some (.cells #[.int .i64 a, .int .i64 b] 22 (0, 0)) := by
    rw [hw0, Below.heap_alloc _ _ _ (by simp)]; exact heap_alloc_new w _
  have HB0 : Hid (Below w.heap.size w w0) := by rw [hw0]; exact ((Below.refl _ _).alloc (Nat.le_refl _) _).alloc (by simp) _
  have HR0 : Hid (w0.heap[w.heap.size + 1]? = some (.cells #[.int .i64 0, .int .i64 0] 25 (0, 0))) := hr
  have c0 := cell_of_heap ha 0 _ rfl
  have c1 := cell_of_heap ha 1 _ rfl
  obtain ⟨m, hm⟩ : ∃ m, mnF (capF a) (capF b) = m := ⟨_, rfl⟩
  obtain ⟨k, hk⟩ : ∃ m, mxF (capF a) (capF b) = m := ⟨_, rfl⟩
  rw [hm, hk]
  have HA := fun w => refcap_any a w
  have HB := fun w => refcap_any b w
  unfold mnF at hm
  unfold mxF at hk
  generalize capF a = x at *
  generalize capF b = y at *
  clear hr ha
  go_enter Try.func7, Try.ntmps7
  go_wp2_with fail
  rw [← hw0]
  clear hw0
  refine wp_region_held_drew (S := fun W => W.cell? ⟨w.heap.size, 0, none⟩ = some (.int .i64 a) ∧ W.cell? ⟨w.heap.size, 1, none⟩ = some (.int .i64 b)) (by kernel_rfl) (by exact ⟨c0, c1⟩) (fun hHeld => ?_)
  change wpAnyH _ _ _ _ _ 8 (Array.replicate 8 false) _ _
  refine wpAnyH_take (i := 0) (oi := _) (v := _) (by simp only [List.getElem?_toArray, List.getElem?_cons_zero]; rfl) (by kernel_rfl) (by kernel_rfl) (by kernel_rfl) (by exact fun _ _ _ h => h) (Or.inl ⟨by rfl, by intro w' hSw; (try dsimp only at hSw); first | (go_simp; done) | (go_simp; with_reducible rfl)⟩) hHeld ?_
  simp only [Act.put, List.setIfInBounds_toArray, List.set_cons_zero, List.set_cons_succ]
  refine wpAnyH_take (i := 1) (oi := _) (v := _) (by simp only [List.getElem?_toArray, List.getElem?_cons_succ, List.getElem?_cons_zero]; rfl) (by kernel_rfl) (by kernel_rfl) (by kernel_rfl) (by exact fun _ _ _ h => h) (Or.inl ⟨by rfl, by intro w' hSw; (try dsimp only at hSw); first | (go_simp; done) | (go_simp; with_reducible rfl)⟩) hHeld ?_
  simp only [Act.put, List.setIfInBounds_toArray, List.set_cons_zero, List.set_cons_succ]
  refine wpAnyH_take (i := 3) (oi := _) (v := _) (by simp only [List.getElem?_toArray, List.getElem?_cons_succ, List.getElem?_cons_zero]; rfl) (by kernel_rfl) (by kernel_rfl) (by kernel_rfl) (by exact fun _ _ _ h => h) (Or.inl ⟨by rfl, by intro w' hSw; (try dsimp only at hSw); first | (go_simp; done) | (go_simp; with_reducible rfl)⟩) hHeld ?_
  simp only [Act.put, List.setIfInBounds_toArray, List.set_cons_zero, List.set_cons_succ]
  refine wpAnyH_take (i := 4) (oi := _) (v := _) (by simp only [List.getElem?_toArray, List.getElem?_cons_succ, List.getElem?_cons_zero]; rfl) (by kernel_rfl) (by kernel_rfl) (by kernel_rfl) (by exact fun _ _ _ h => h) (Or.inl ⟨by rfl, by intro w' hSw; (try dsimp only at hSw); first | (go_simp; done) | (go_simp; with_reducible rfl)⟩) hHeld ?_
  simp only [Act.put, List.setIfInBounds_toArray, List.set_cons_zero, List.set_cons_succ]
  refine wpAnyH_ready (rs := [2]) (by kernel_rfl) (by simp) ?_
  refine AllReadyH.cons rfl (fun K hK => ?_) AllReadyH.nil
  go_simp
  go_wp2_with fail
  refine (HA _).mono ?_
  rintro r w1 ⟨rfl, hw1⟩
  have HR1 : Hid (w1.heap[w.heap.size + 1]? = some (.cells #[.int .i64 0, .int .i64 0] 25 (0, 0))) := by rw [hw1]; exact HR0.out
  have HB1 : Hid (Below w.heap.size w w1) := by rw [hw1]; first | exact HB0.out.drew | exact HB0.out
  refine hK.out _ _ (by rw [hw1]; exact hHeld) (fun hHeld => ?_)
  clear hK K hw1
  refine wpAnyH_ready (rs := [5]) (by kernel_rfl) (by simp) ?_
  refine AllReadyH.cons rfl (fun K hK => ?_) AllReadyH.nil
  go_simp
  go_wp2_with fail
  refine (HB _).mono ?_
  rintro r w2 ⟨rfl, hw2⟩
  have HR2 : Hid (w2.heap[w.heap.size + 1]? = some (.cells #[.int .i64 0, .int .i64 0] 25 (0, 0))) := by rw [hw2]; exact HR1.out
  have HB2 : Hid (Below w.heap.size w w2) := by rw [hw2]; first | exact HB1.out.drew | exact HB1.out
  refine hK.out _ _ (by rw [hw2]; exact hHeld) (fun hHeld => ?_)
  clear hK K hw2
  refine wpAnyH_take (i := 6) (oi := _) (v := _) (by simp only [List.getElem?_toArray, List.getElem?_cons_succ, List.getElem?_cons_zero]; rfl) (by kernel_rfl) (by kernel_rfl) (by kernel_rfl) (by exact fun _ _ _ h => h) (Or.inl ⟨by rfl, by intro w' hSw; (try dsimp only at hSw); first | (go_simp; done) | (go_simp; with_reducible rfl)⟩) hHeld ?_
  simp only [Act.put, List.setIfInBounds_toArray, List.set_cons_zero, List.set_cons_succ]
  refine wpAnyH_take (i := 7) (oi := _) (v := _) (by simp only [List.getElem?_toArray, List.getElem?_cons_succ, List.getElem?_cons_zero]; rfl) (by kernel_rfl) (by kernel_rfl) (by kernel_rfl) (by exact fun _ _ _ h => h) (Or.inl ⟨by rfl, by intro w' hSw; (try dsimp only at hSw); first | (go_simp; done) | (go_simp; with_reducible rfl)⟩) hHeld ?_
  simp only [Act.put, List.setIfInBounds_toArray, List.set_cons_zero, List.set_cons_succ]
  refine wpAnyH_done (by kernel_rfl) ?_ _
  obtain ⟨y0, y1, f0, f1⟩ := agg2 HR2.out
  clear HA HB hHeld c0 c1
  go_wp2
  refine bodyPost_ret (res_sp rfl _ (w.heap.size + 1) _ _ _ rfl (set2_heap HR2.out _ _)) rfl ?_
  exact ⟨rfl, set2_below HB2.out _ (by omega) _ _⟩

theorem speaks_any (w : World) : Calls Try.prog 6 #[] w fun r w' => r = .returned (.bool true) ∧ Below w.heap.size w w' := by
  have HA := fun w => add_any 1 3 10 20 w (by decide) (by decide) (by decide) (by decide)
  rw [show capF (1 + 10) = 11 by decide, show capF (3 + 20) = 23 by decide] at HA
  have HT := fun w => top_any w
  go_enter Try.func6, Try.ntmps6
  go_wp2_with fail
  refine (HA _).mono ?_
  rintro r w1 ⟨rfl, hb1⟩
  go_wp2_with fail
  refine (HT _).mono ?_
  rintro r w2 ⟨rfl, hb2⟩
  have hfd : ∀ w : World, (Instr.field 25 (.agg #[.int .i64 (-1099511627776), .int .i64 1099511627776]) 1).run Try.prog w = .ok (.int .i64 1099511627776) w := fun _ => by kernel_rfl
  go_wp2
  go_ret
  exact ⟨rfl, hb1.trans (hb2.mono hb1.size)⟩

theorem within_any (lo hi off size bound : Int) (w : World) (h1 : -1099511627776 ≤ lo ∧ lo ≤ hi ∧ hi ≤ 1099511627776) (h2 : -2147483648 ≤ off ∧ off ≤ 2147483648) (h3 : 0 ≤ size ∧ size ≤ 1023) (h4 : 0 ≤ bound ∧ bound ≤ 65535) :
    Calls Try.prog 15 #[.agg #[.int .i64 lo, .int .i64 hi], .int .i64 off, .int .i64 size, .int .i64 bound] w fun r w' => r = .returned (.bool (decide (-off ≤ lo) && decide (hi ≤ bound - size - off))) ∧ Below w.heap.size w w' := by
  have hb : Below w.heap.size w (w.alloc (Obj.cells #[Value.int IntKind.i64 lo, Value.int IntKind.i64 hi] 25)) := (Below.refl _ _).alloc (Nat.le_refl _) _
  have hq1 : IntKind.i64.wrap (-off) = -off := IntWalk.i64_in _ (by omega)
  have hd : decide (hi < lo) = false := decide_eq_false (by omega)
  go_enter Try.func15, Try.ntmps15
  go_wp2
  · rename_i h0
    go_ret
    exact ⟨by rw [decide_eq_true h0]; rfl, hb⟩
  · rename_i h0
    go_ret
    exact ⟨by rw [decide_eq_false (by omega)]; rfl, hb⟩

end Go.Proofs.Ytgfbcekmnpdoeab.Sn
