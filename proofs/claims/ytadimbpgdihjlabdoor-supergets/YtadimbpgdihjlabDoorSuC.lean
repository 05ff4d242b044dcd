/-
  Layer 9's calls of a layout: Ring, Bits, Inode, Data. No condition.
-/
import Derived.Test.YtadimbpgdihjlabDoorSuR
namespace Go.Proofs.YtadimbpgdihjlabDoor.Su
open Go.ChangeShapes Go.WideShapes Go.ChangeAt Go.RowKit

set_option maxRecDepth 100000
set_option maxHeartbeats 1000000

/-- Two cells under Hid. -/
theorem LayAt.cells {b : Nat} {s j : Int} {W : World} (h : LayAt b s j W) : W.cell? ⟨b, 0, none⟩ = some (.int .i64 s) ∧ W.cell? ⟨b, 1, none⟩ = some (.int .i64 j) := h

def bitsF (s j : Int) : Int := if RightP s j then 1 + j else 0
theorem bits_any (s j : Int) (w : World) : Calls Tryd.prog 13 #[.agg #[.int .i64 s, .int .i64 j]] w fun r w' => r = .returned (.int .i64 (bitsF s j)) ∧ Below w.heap.size w w' := by
  have HS : Hid (LayAt w.heap.size s j (w.alloc (.cells #[.int .i64 s, .int .i64 j] 26))) := lay_new w s j _
  have HB0 : Hid (Below w.heap.size w (w.alloc (.cells #[.int .i64 s, .int .i64 j] 26))) := (Below.refl _ _).alloc (Nat.le_refl _) _
  have hr := right_any s j (w.alloc (.cells #[.int .i64 s, .int .i64 j] 26))
  by_cases hp : RightP s j
  · rw [show decide (RightP s j) = true from decide_eq_true hp] at hr
    have HF : Hid (bitsF s j = 1 + j) := if_pos hp
    have hsA := fun w => setAt_any s j w (by unfold RightP at hp; omega)
    clear hp
    go_enter Tryd.func13, Tryd.ntmps13
    go_wp2_with fail
    refine hr.mono ?_
    rintro r w1 ⟨rfl, hb1⟩
    have HB1 : Hid (Below w.heap.size w w1) := HB0.out.trans (hb1.mono HB0.out.size)
    obtain ⟨c0, c1⟩ := (HS.out.below hb1).cells
    clear hb1 hr
    go_wp2_with fail
    refine (hsA _).mono ?_
    rintro r w2 ⟨rfl, hb2⟩
    have HB2 : Hid (Below w.heap.size w w2) := HB1.out.trans (hb2.mono HB1.out.size)
    clear hb2 hsA
    go_wp2
    go_ret
    exact ⟨by rw [HF.out]; rfl, HB2.out⟩
  · rw [show decide (RightP s j) = false from decide_eq_false hp] at hr
    have HF : Hid (bitsF s j = 0) := if_neg hp
    clear hp
    go_enter Tryd.func13, Tryd.ntmps13
    go_wp2_with fail
    refine hr.mono ?_
    rintro r w1 ⟨rfl, hb1⟩
    have HB1 : Hid (Below w.heap.size w w1) := HB0.out.trans (hb1.mono HB0.out.size)
    clear hb1 hr
    go_wp2
    go_ret
    exact ⟨by rw [HF.out]; rfl, HB1.out⟩

def dataF (s j : Int) : Value := if RightP s j then .tuple #[.int .i64 (6 + j), .int .i64 (s - (6 + j))] else .tuple #[.int .i64 0, .int .i64 0]
theorem data_any (s j : Int) (w : World) : Calls Tryd.prog 11 #[.agg #[.int .i64 s, .int .i64 j]] w fun r w' => r = .returned (dataF s j) ∧ Below w.heap.size w w' := by
  have HS : Hid (LayAt w.heap.size s j (w.alloc (.cells #[.int .i64 s, .int .i64 j] 26))) := lay_new w s j _
  have HB0 : Hid (Below w.heap.size w (w.alloc (.cells #[.int .i64 s, .int .i64 j] 26))) := (Below.refl _ _).alloc (Nat.le_refl _) _
  have hr := right_any s j (w.alloc (.cells #[.int .i64 s, .int .i64 j] 26))
  by_cases hp : RightP s j
  · rw [show decide (RightP s j) = true from decide_eq_true hp] at hr
    have HF : Hid (dataF s j = .tuple #[.int .i64 (6 + j), .int .i64 (s - (6 + j))]) := if_pos hp
    have hsA := fun w => dataAt_any s j w (by unfold RightP at hp; omega)
    have hj : 0 ≤ j ∧ j ≤ 512 ∧ 0 ≤ s ∧ s ≤ 2048 := by unfold RightP at hp; omega
    obtain ⟨hj0, hj1, hj2, hj3⟩ := hj
    clear hp
    go_enter Tryd.func11, Tryd.ntmps11
    go_wp2_with fail
    refine hr.mono ?_
    rintro r w1 ⟨rfl, hb1⟩
    have HB1 : Hid (Below w.heap.size w w1) := HB0.out.trans (hb1.mono HB0.out.size)
    have HS1 := (HS.out.below hb1).cells
    clear hb1 hr
    go_wp2_with fail
    refine wp_region_held_drew (S := fun W => W.cell? ⟨w.heap.size, 0, none⟩ = some (.int .i64 s) ∧ W.cell? ⟨w.heap.size, 1, none⟩ = some (.int .i64 j)) (by kernel_rfl) (by exact HS1) (fun hHeld => ?_)
    change wpAnyH _ _ _ _ _ 9 (Array.replicate 9 false) _ _
    refine wpAnyH_take (i := 0) (oi := _) (v := _) (by simp only [List.getElem?_toArray, List.getElem?_cons_zero]; rfl) (by kernel_rfl) (by kernel_rfl) (by kernel_rfl) (by exact fun _ _ _ h => h) (Or.inl ⟨by rfl, by intro w' hSw; (try dsimp only at hSw); first | (go_simp; done) | (go_simp; with_reducible rfl)⟩) hHeld ?_
    simp only [Act.put, List.setIfInBounds_toArray, List.set_cons_zero, List.set_cons_succ]
    refine wpAnyH_take (i := 2) (oi := _) (v := _) (by simp only [List.getElem?_toArray, List.getElem?_cons_succ, List.getElem?_cons_zero]; rfl) (by kernel_rfl) (by kernel_rfl) (by kernel_rfl) (by exact fun _ _ _ h => h) (Or.inl ⟨by rfl, by intro w' hSw; (try dsimp only at hSw); first | (go_simp; done) | (go_simp; with_reducible rfl)⟩) hHeld ?_
    simp only [Act.put, List.setIfInBounds_toArray, List.set_cons_zero, List.set_cons_succ]
    refine wpAnyH_take (i := 3) (oi := _) (v := _) (by simp only [List.getElem?_toArray, List.getElem?_cons_succ, List.getElem?_cons_zero]; rfl) (by kernel_rfl) (by kernel_rfl) (by kernel_rfl) (by exact fun _ _ _ h => h) (Or.inl ⟨by rfl, by intro w' hSw; (try dsimp only at hSw); first | (go_simp; done) | (go_simp; with_reducible rfl)⟩) hHeld ?_
    simp only [Act.put, List.setIfInBounds_toArray, List.set_cons_zero, List.set_cons_succ]
    refine wpAnyH_take (i := 4) (oi := _) (v := _) (by simp only [List.getElem?_toArray, List.getElem?_cons_succ, List.getElem?_cons_zero]; rfl) (by kernel_rfl) (by kernel_rfl) (by kernel_rfl) (by exact fun _ _ _ h => h) (Or.inl ⟨by rfl, by intro w' hSw; (try dsimp only at hSw); first | (go_simp; done) | (go_simp; with_reducible rfl)⟩) hHeld ?_
    simp only [Act.put, List.setIfInBounds_toArray, List.set_cons_zero, List.set_cons_succ]
    refine wpAnyH_ready (rs := [1]) (by kernel_rfl) (by simp) ?_
    refine AllReadyH.cons rfl (fun K hK => ?_) AllReadyH.nil
    go_simp
    go_wp2_with fail
    refine (hsA _).mono ?_
    rintro r w2 ⟨rfl, hb2⟩
    have HB2 : Hid (Below w.heap.size w w2) := (HB1.out.drew).trans (hb2.mono HB1.out.drew.size)
    refine hK.out _ _ (LayAt.below hHeld hb2) (fun hHeld => ?_)
    clear hK K hb2
    refine wpAnyH_ready (rs := [5]) (by kernel_rfl) (by simp) ?_
    refine AllReadyH.cons rfl (fun K hK => ?_) AllReadyH.nil
    go_simp
    go_wp2_with fail
    refine (hsA _).mono ?_
    rintro r w3 ⟨rfl, hb3⟩
    have HB3 : Hid (Below w.heap.size w w3) := HB2.out.trans (hb3.mono HB2.out.size)
    refine hK.out _ _ (LayAt.below hHeld hb3) (fun hHeld => ?_)
    clear hK K hb3
    refine wpAnyH_take (i := 6) (oi := _) (v := _) (by simp only [List.getElem?_toArray, List.getElem?_cons_succ, List.getElem?_cons_zero]; rfl) (by kernel_rfl) (by kernel_rfl) (by kernel_rfl) (by exact fun _ _ _ h => h) (Or.inl ⟨by rfl, by intro w' hSw; (try dsimp only at hSw); first | (go_simp; done) | (go_simp; with_reducible rfl)⟩) hHeld ?_
    simp only [Act.put, List.setIfInBounds_toArray, List.set_cons_zero, List.set_cons_succ]
    refine wpAnyH_take (i := 7) (oi := _) (v := _) (by simp only [List.getElem?_toArray, List.getElem?_cons_succ, List.getElem?_cons_zero]; rfl) (by kernel_rfl) (by kernel_rfl) (by kernel_rfl) (by exact fun _ _ _ h => h) (Or.inl ⟨by rfl, by intro w' hSw; (try dsimp only at hSw); first | (go_simp; done) | (go_simp; with_reducible rfl)⟩) hHeld ?_
    simp only [Act.put, List.setIfInBounds_toArray, List.set_cons_zero, List.set_cons_succ]
    refine wpAnyH_take (i := 8) (oi := _) (v := _) (by simp only [List.getElem?_toArray, List.getElem?_cons_succ, List.getElem?_cons_zero]; rfl) (by kernel_rfl) (by kernel_rfl) (by kernel_rfl) (by exact fun _ _ _ h => h) (Or.inl ⟨by rfl, by intro w' hSw; (try dsimp only at hSw); first | (go_simp; done) | (go_simp; with_reducible rfl)⟩) hHeld ?_
    simp only [Act.put, List.setIfInBounds_toArray, List.set_cons_zero, List.set_cons_succ]
    refine wpAnyH_done (by kernel_rfl) ?_ _
    rw [show IntKind.i64.wrap (s - (6 + j)) = s - (6 + j) from IntWalk.i64_in _ (by omega)]
    go_wp2
    go_ret2
    exact ⟨by rw [HF.out]; rfl, HB3.out⟩
  · rw [show decide (RightP s j) = false from decide_eq_false hp] at hr
    have HF : Hid (dataF s j = .tuple #[.int .i64 0, .int .i64 0]) := if_neg hp
    clear hp
    go_enter Tryd.func11, Tryd.ntmps11
    go_wp2_with fail
    refine hr.mono ?_
    rintro r w1 ⟨rfl, hb1⟩
    have HB1 : Hid (Below w.heap.size w w1) := HB0.out.trans (hb1.mono HB0.out.size)
    clear hb1 hr
    go_wp2
    go_ret2
    exact ⟨by rw [HF.out]; rfl, HB1.out⟩

end Go.Proofs.YtadimbpgdihjlabDoor.Su
