/-
  SuperGets answers true for every input: the layout of any sector, or what is wrong with it. Condition: the table of four steps, and errors.errorType, hold what their initialisers lay.
-/
import Derived.Test.YtadimbpgdihjlabDoorSuGet
namespace Go.Proofs.YtadimbpgdihjlabDoor.Su
open Go.ChangeShapes Go.WideShapes Go.ChangeAt Go.RowKit
open Go.Proofs.YtadimbpgdihjlabDoor.Le (streq_yes getF)
open Go.Proofs.YtadimbpgdihjlabDoor.Mk (NibAt openF errV errV_pos errV_zero open_seal sealS sealF padS padS_size refopen_any refseal_any)
open Go.Proofs.YtadimbpgdihjlabDoor.As (ErrT)

set_option maxRecDepth 100000
set_option maxHeartbeats 1000000

def intOf : Value → Int | .int _ n => n | _ => 0

theorem gcode_any (e : Int) (w : World) (hE : ErrT w) : Calls Tryd.prog 9 #[errV e] w fun r w' => r = .returned (.int .i64 e) ∧ Below w.heap.size w w' := by
  have hN := Mk.number_errV e w hE
  generalize errV e = ev at *
  go_enter Tryd.func9, Tryd.ntmps9
  go_wp2_with fail
  refine hN.mono ?_
  rintro r w1 ⟨rfl, hb⟩
  go_wp2
  go_ret
  exact ⟨rfl, hb⟩

theorem res_refget (tm : Array Value) (rb : Nat) (W : World) (s j : Int) (er : Value) (h4 : tm[2]? = some (.pointer (some ⟨rb, 0, none⟩))) (h5 : tm.getD 3 undef = er) (h : W.heap[rb]? = some (.cells #[.int .i64 s, .int .i64 j] 31 (0, 0))) :
    (results Tryd.f8 tm).run Tryd.prog W = .ok (.tuple #[.agg #[.int .i64 s, .int .i64 j], er]) W := by
  obtain ⟨c0, c1, _⟩ := agg2 h
  clear h
  subst h5
  simp [results, Tryd.f8, go_sem, h4, c0, c1]

theorem refget_any (s b : ByteArray) (w : World) (ho : openF 1 s = (b, 0)) (hb : b.size = 504) :
    Calls Tryd.prog 8 #[.string s] w fun r w' => r = .returned (.tuple #[.agg #[.int .i64 (bodyG b).1, .int .i64 (bodyG b).2.1], .int .i64 (bodyG b).2.2]) ∧ Below w.heap.size w w' := by
  obtain ⟨w0, hw0⟩ : ∃ w0, w0 = w.alloc (.cells #[.int .i64 0, .int .i64 0] 31) := ⟨_, rfl⟩
  have HB0 : Hid (Below w.heap.size w w0) := by rw [hw0]; exact (Below.refl _ _).alloc (Nat.le_refl _) _
  have HR0 : Hid (w0.heap[w.heap.size]? = some (.cells #[.int .i64 0, .int .i64 0] 31 (0, 0))) := by rw [hw0]; exact heap_alloc_new _ _
  have hO := refopen_any 1 s w0
  rw [ho] at hO
  dsimp only at hO
  clear ho
  have HG : Hid (bodyG b = _) := bodyG_eq b
  have hG1 := fun w => Le.refget_any (b.extract 0 2) w
  have hG2 := fun w => Le.refget_any (b.extract 2 4) w
  obtain ⟨s1, hs1⟩ : ∃ x, getF (b.extract 0 2) = x := ⟨_, rfl⟩
  obtain ⟨j1, hj1⟩ : ∃ x, getF (b.extract 2 4) = x := ⟨_, rfl⟩
  simp only [hs1] at hG1
  simp only [hj1] at hG2
  rw [hs1, hj1] at HG
  clear hs1 hj1
  go_enter Tryd.func8, Tryd.ntmps8
  go_wp2_with fail
  rw [← hw0]
  refine hO.mono ?_
  rintro r w1 ⟨rfl, hb1⟩
  have HB1 : Hid (Below w.heap.size w w1) := HB0.out.trans (hb1.mono HB0.out.size)
  have HR1 : Hid (w1.heap[w.heap.size]? = some (.cells #[.int .i64 0, .int .i64 0] 31 (0, 0))) := (hb1.block _ (lt_of_heap HR0.out)).trans HR0.out
  clear hb1 hO hw0 HB0 HR0
  go_wp2_with fail
  go_loopw [6] (fun i wr => ∃ k : Nat, 4 ≤ k ∧ k ≤ 504 ∧ i = .int .i64 k ∧ (∀ q (hq : q < b.size), 4 ≤ q → q < k → b[q] = 0) ∧ wr.heap[w.heap.size]? = some (.cells #[.int .i64 0, .int .i64 0] 31 (0, 0)) ∧ Below w.heap.size w wr) (fun i _ => 504 - (intOf i).toNat)
  case atStart => exact ⟨4, by omega, by omega, rfl, fun q _ h4 h => absurd h (by omega), HR1.out, HB1.out⟩
  case round =>
    clear HR1 HB1
    obtain ⟨k, h4, hk, rfl, hz, hR, hB⟩ := hrel
    have HZ : Hid (∀ q (hq : q < b.size), 4 ≤ q → q < k → b[q] = 0) := hz
    have HR : Hid (wr.heap[w.heap.size]? = some (.cells #[.int .i64 0, .int .i64 0] 31 (0, 0))) := hR
    have HB : Hid (Below w.heap.size w wr) := hB
    clear hz hR hB
    by_cases hlt : k < 504
    · have hkb : k < b.size := by omega
      by_cases h0 : b[k] = 0
      · have q1 : (((b[k].toNat : Nat) : Int) != 0) = false := by rw [h0]; rfl
        have HZ2 : Hid (∀ q (hq : q < b.size), 4 ≤ q → q < k + 1 → b[q] = 0) := fun q hq h4q hqk => by
          by_cases e : q < k
          · exact HZ.out q hq h4q e
          · obtain rfl : q = k := by omega
            exact h0
        clear h0 HZ
        go_wp2
        go_roundw
        case rel => exact ⟨k + 1, by omega, by omega, by go_num, HZ2.out, HR.out, HB.out⟩
        case measure => simp [intOf]; omega
      · have q1 : (((b[k].toNat : Nat) : Int) != 0) = true := by
          rw [bne_iff_ne]; intro e; exact h0 (UInt8.toNat_inj.1 (by simpa using e))
        have HG3 : Hid (bodyG b = (0, 0, 4)) := by show _ = _; rw [HG.out, rest_no b k hkb h4 h0, if_neg (by decide)]
        clear h0 HG hG1 hG2
        obtain ⟨r0, r1, f0, f1⟩ := agg2 HR.out
        go_wp2
        refine bodyPost_ret (res_refget _ w.heap.size _ 0 0 _ rfl rfl (set2_heap HR.out _ _)) rfl ?_
        exact ⟨by rw [HG3.out]; rfl, set2_below HB.out _ (Nat.le_refl _) _ _⟩
    · have HZ3 : Hid (restZ b = true) := rest_yes b (fun q hq h4q => HZ.out q hq h4q (by omega))
      have HG2 : Hid (bodyG b = if RightP s1 j1 then (s1, j1, 0) else (0, 0, 17)) := by show _ = _; rw [HG.out, if_pos HZ3.out]
      have h504 : k = 504 := by omega
      subst h504
      clear HG HZ HZ3
      go_wp2_with fail
      refine wp_region_held_drew (S := fun _ => True) (by kernel_rfl) (by exact True.intro) (fun hHeld => ?_)
      change wpAnyH _ _ _ _ _ 9 (Array.replicate 9 false) _ _
      refine wpAnyH_take (i := 0) (oi := _) (v := _) (by simp only [List.getElem?_toArray, List.getElem?_cons_zero]; rfl) (by kernel_rfl) (by kernel_rfl) (by kernel_rfl) (by exact fun _ _ _ h => h) (Or.inl ⟨by rfl, by intro w' hSw; (try dsimp only at hSw); first | (go_simp; done) | (go_simp; with_reducible rfl)⟩) hHeld ?_
      simp only [Act.put, List.setIfInBounds_toArray, List.set_cons_zero, List.set_cons_succ]
      refine wpAnyH_take (i := 1) (oi := _) (v := _) (by simp only [List.getElem?_toArray, List.getElem?_cons_succ, List.getElem?_cons_zero]; rfl) (by kernel_rfl) (by kernel_rfl) (by kernel_rfl) (by exact fun _ _ _ h => h) (Or.inl ⟨by rfl, by intro w' hSw; (try dsimp only at hSw); first | (go_simp; done) | (go_simp; with_reducible rfl)⟩) hHeld ?_
      simp only [Act.put, List.setIfInBounds_toArray, List.set_cons_zero, List.set_cons_succ]
      refine wpAnyH_take (i := 3) (oi := _) (v := _) (by simp only [List.getElem?_toArray, List.getElem?_cons_succ, List.getElem?_cons_zero]; rfl) (by kernel_rfl) (by kernel_rfl) (by kernel_rfl) (by exact fun _ _ _ h => h) (Or.inl ⟨by rfl, by intro w' hSw; (try dsimp only at hSw); first | (go_simp; done) | (go_simp; with_reducible rfl)⟩) hHeld ?_
      simp only [Act.put, List.setIfInBounds_toArray, List.set_cons_zero, List.set_cons_succ]
      refine wpAnyH_take (i := 4) (oi := _) (v := _) (by simp only [List.getElem?_toArray, List.getElem?_cons_succ, List.getElem?_cons_zero]; rfl) (by kernel_rfl) (by kernel_rfl) (by kernel_rfl) (by exact fun _ _ _ h => h) (Or.inl ⟨by rfl, by intro w' hSw; (try dsimp only at hSw); first | (go_simp; done) | (go_simp; with_reducible rfl)⟩) hHeld ?_
      simp only [Act.put, List.setIfInBounds_toArray, List.set_cons_zero, List.set_cons_succ]
      refine wpAnyH_ready (rs := [2, 7]) (by kernel_rfl) (by simp) ?_
      refine (AllReadyH.cons rfl (fun K hK => ?_) (AllReadyH.cons rfl (fun K hK => ?_) AllReadyH.nil))
      · skip
        go_simp
        go_wp2_with fail
        refine (hG1 _).mono ?_
        rintro r wq ⟨rfl, rfl⟩
        refine hK.out _ _ True.intro (fun hHeld => ?_)
        clear hK K
        refine wpAnyH_ready (rs := [5, 7]) (by kernel_rfl) (by simp) ?_
        refine (AllReadyH.cons rfl (fun K hK => ?_) (AllReadyH.cons rfl (fun K hK => ?_) AllReadyH.nil))
        · skip
          go_simp
          go_wp2_with fail
          refine (hG2 _).mono ?_
          rintro r wq ⟨rfl, rfl⟩
          refine hK.out _ _ True.intro (fun hHeld => ?_)
          clear hK K
          refine wpAnyH_take (i := 6) (oi := _) (v := _) (by simp only [List.getElem?_toArray, List.getElem?_cons_succ, List.getElem?_cons_zero]; rfl) (by kernel_rfl) (by kernel_rfl) (by kernel_rfl) (by exact fun _ _ _ h => h) (Or.inl ⟨by rfl, by intro w' hSw; (try dsimp only at hSw); first | (go_simp; done) | (go_simp; with_reducible rfl)⟩) hHeld ?_
          simp only [Act.put, List.setIfInBounds_toArray, List.set_cons_zero, List.set_cons_succ]
          refine wpAnyH_ready (rs := [7]) (by kernel_rfl) (by simp) ?_
          refine AllReadyH.cons rfl (fun K hK => ?_) AllReadyH.nil
          go_simp
          go_wp2_with fail
          refine hK.out _ _ True.intro (fun hHeld => ?_)
          clear hK K
          refine wpAnyH_ready (rs := [8]) (by kernel_rfl) (by simp) ?_
          refine AllReadyH.cons rfl (fun K hK => ?_) AllReadyH.nil
          go_simp
          go_wp2_with fail
          refine hK.out _ _ True.intro (fun hHeld => ?_)
          clear hK K
          refine wpAnyH_done (by kernel_rfl) ?_ _
          have hr := refright_any s1 j1 (wr.alloc (.cells #[.int .i64 s1, .int .i64 j1] 31)).drew
          have HL : Hid (LayAt wr.heap.size s1 j1 (wr.alloc (.cells #[.int .i64 s1, .int .i64 j1] 31)).drew) := lay_new _ _ _ _
          have HB2 : Hid (Below w.heap.size w (wr.alloc (.cells #[.int .i64 s1, .int .i64 j1] 31)).drew) := (HB.out.alloc HB.out.size _).drew
          have HR2 : Hid ((wr.alloc (.cells #[.int .i64 s1, .int .i64 j1] 31)).drew.heap[w.heap.size]? = some (.cells #[.int .i64 0, .int .i64 0] 31 (0, 0))) := (Below.heap_alloc _ _ _ (lt_of_heap HR.out)).trans HR.out
          clear hG1 hG2 HB HR
          by_cases hp : RightP s1 j1
          · rw [show decide (RightP s1 j1) = true from decide_eq_true hp] at hr
            have HG3 : Hid (bodyG b = (s1, j1, 0)) := by show _ = _; rw [HG2.out, if_pos hp]
            clear hp HG2
            go_wp2_with fail
            refine hr.mono ?_
            rintro r w7 ⟨rfl, hb7⟩
            have HB7 : Hid (Below w.heap.size w w7) := HB2.out.trans (hb7.mono HB2.out.size)
            have HR7 : Hid (w7.heap[w.heap.size]? = some (.cells #[.int .i64 0, .int .i64 0] 31 (0, 0))) := (hb7.block _ (lt_of_heap HR2.out)).trans HR2.out
            have HL7 : Hid (LayAt wr.heap.size s1 j1 w7) := HL.out.below hb7
            clear hb7 hr HB2 HR2 HL
            obtain ⟨c0, c1⟩ := HL7.out.cells
            obtain ⟨r0, r1, f0, f1⟩ := agg2 HR7.out
            go_wp2
            refine bodyPost_ret (res_refget _ w.heap.size _ s1 j1 _ rfl rfl (set2_heap HR7.out _ _)) rfl ?_
            exact ⟨by rw [HG3.out]; rfl, set2_below HB7.out _ (Nat.le_refl _) _ _⟩
          · rw [show decide (RightP s1 j1) = false from decide_eq_false hp] at hr
            have HG3 : Hid (bodyG b = (0, 0, 17)) := by show _ = _; rw [HG2.out, if_neg hp]
            clear hp HG2
            go_wp2_with fail
            refine hr.mono ?_
            rintro r w7 ⟨rfl, hb7⟩
            have HB7 : Hid (Below w.heap.size w w7) := HB2.out.trans (hb7.mono HB2.out.size)
            have HR7 : Hid (w7.heap[w.heap.size]? = some (.cells #[.int .i64 0, .int .i64 0] 31 (0, 0))) := (hb7.block _ (lt_of_heap HR2.out)).trans HR2.out
            clear hb7 hr HB2 HR2 HL
            obtain ⟨r0, r1, f0, f1⟩ := agg2 HR7.out
            go_wp2
            refine bodyPost_ret (res_refget _ w.heap.size _ 0 0 _ rfl rfl (set2_heap HR7.out _ _)) rfl ?_
            exact ⟨by rw [HG3.out]; rfl, set2_below HB7.out _ (Nat.le_refl _) _ _⟩
        · skip
          go_simp
          go_wp2_with fail
          refine hK.out _ _ True.intro (fun hHeld => ?_)
          clear hK K
          refine wpAnyH_ready (rs := [5]) (by kernel_rfl) (by simp) ?_
          refine AllReadyH.cons rfl (fun K hK => ?_) AllReadyH.nil
          go_simp
          go_wp2_with fail
          refine (hG2 _).mono ?_
          rintro r wq ⟨rfl, rfl⟩
          refine hK.out _ _ True.intro (fun hHeld => ?_)
          clear hK K
          refine wpAnyH_take (i := 6) (oi := _) (v := _) (by simp only [List.getElem?_toArray, List.getElem?_cons_succ, List.getElem?_cons_zero]; rfl) (by kernel_rfl) (by kernel_rfl) (by kernel_rfl) (by exact fun _ _ _ h => h) (Or.inl ⟨by rfl, by intro w' hSw; (try dsimp only at hSw); first | (go_simp; done) | (go_simp; with_reducible rfl)⟩) hHeld ?_
          simp only [Act.put, List.setIfInBounds_toArray, List.set_cons_zero, List.set_cons_succ]
          refine wpAnyH_ready (rs := [8]) (by kernel_rfl) (by simp) ?_
          refine AllReadyH.cons rfl (fun K hK => ?_) AllReadyH.nil
          go_simp
          go_wp2_with fail
          refine hK.out _ _ True.intro (fun hHeld => ?_)
          clear hK K
          refine wpAnyH_done (by kernel_rfl) ?_ _
          have hr := refright_any s1 j1 (wr.alloc (.cells #[.int .i64 s1, .int .i64 j1] 31)).drew
          have HL : Hid (LayAt wr.heap.size s1 j1 (wr.alloc (.cells #[.int .i64 s1, .int .i64 j1] 31)).drew) := lay_new _ _ _ _
          have HB2 : Hid (Below w.heap.size w (wr.alloc (.cells #[.int .i64 s1, .int .i64 j1] 31)).drew) := (HB.out.alloc HB.out.size _).drew
          have HR2 : Hid ((wr.alloc (.cells #[.int .i64 s1, .int .i64 j1] 31)).drew.heap[w.heap.size]? = some (.cells #[.int .i64 0, .int .i64 0] 31 (0, 0))) := (Below.heap_alloc _ _ _ (lt_of_heap HR.out)).trans HR.out
          clear hG1 hG2 HB HR
          by_cases hp : RightP s1 j1
          · rw [show decide (RightP s1 j1) = true from decide_eq_true hp] at hr
            have HG3 : Hid (bodyG b = (s1, j1, 0)) := by show _ = _; rw [HG2.out, if_pos hp]
            clear hp HG2
            go_wp2_with fail
            refine hr.mono ?_
            rintro r w7 ⟨rfl, hb7⟩
            have HB7 : Hid (Below w.heap.size w w7) := HB2.out.trans (hb7.mono HB2.out.size)
            have HR7 : Hid (w7.heap[w.heap.size]? = some (.cells #[.int .i64 0, .int .i64 0] 31 (0, 0))) := (hb7.block _ (lt_of_heap HR2.out)).trans HR2.out
            have HL7 : Hid (LayAt wr.heap.size s1 j1 w7) := HL.out.below hb7
            clear hb7 hr HB2 HR2 HL
            obtain ⟨c0, c1⟩ := HL7.out.cells
            obtain ⟨r0, r1, f0, f1⟩ := agg2 HR7.out
            go_wp2
            refine bodyPost_ret (res_refget _ w.heap.size _ s1 j1 _ rfl rfl (set2_heap HR7.out _ _)) rfl ?_
            exact ⟨by rw [HG3.out]; rfl, set2_below HB7.out _ (Nat.le_refl _) _ _⟩
          · rw [show decide (RightP s1 j1) = false from decide_eq_false hp] at hr
            have HG3 : Hid (bodyG b = (0, 0, 17)) := by show _ = _; rw [HG2.out, if_neg hp]
            clear hp HG2
            go_wp2_with fail
            refine hr.mono ?_
            rintro r w7 ⟨rfl, hb7⟩
            have HB7 : Hid (Below w.heap.size w w7) := HB2.out.trans (hb7.mono HB2.out.size)
            have HR7 : Hid (w7.heap[w.heap.size]? = some (.cells #[.int .i64 0, .int .i64 0] 31 (0, 0))) := (hb7.block _ (lt_of_heap HR2.out)).trans HR2.out
            clear hb7 hr HB2 HR2 HL
            obtain ⟨r0, r1, f0, f1⟩ := agg2 HR7.out
            go_wp2
            refine bodyPost_ret (res_refget _ w.heap.size _ 0 0 _ rfl rfl (set2_heap HR7.out _ _)) rfl ?_
            exact ⟨by rw [HG3.out]; rfl, set2_below HB7.out _ (Nat.le_refl _) _ _⟩
      · skip
        go_simp
        go_wp2_with fail
        refine hK.out _ _ True.intro (fun hHeld => ?_)
        clear hK K
        refine wpAnyH_ready (rs := [2]) (by kernel_rfl) (by simp) ?_
        refine AllReadyH.cons rfl (fun K hK => ?_) AllReadyH.nil
        go_simp
        go_wp2_with fail
        refine (hG1 _).mono ?_
        rintro r wq ⟨rfl, rfl⟩
        refine hK.out _ _ True.intro (fun hHeld => ?_)
        clear hK K
        refine wpAnyH_ready (rs := [5]) (by kernel_rfl) (by simp) ?_
        refine AllReadyH.cons rfl (fun K hK => ?_) AllReadyH.nil
        go_simp
        go_wp2_with fail
        refine (hG2 _).mono ?_
        rintro r wq ⟨rfl, rfl⟩
        refine hK.out _ _ True.intro (fun hHeld => ?_)
        clear hK K
        refine wpAnyH_take (i := 6) (oi := _) (v := _) (by simp only [List.getElem?_toArray, List.getElem?_cons_succ, List.getElem?_cons_zero]; rfl) (by kernel_rfl) (by kernel_rfl) (by kernel_rfl) (by exact fun _ _ _ h => h) (Or.inl ⟨by rfl, by intro w' hSw; (try dsimp only at hSw); first | (go_simp; done) | (go_simp; with_reducible rfl)⟩) hHeld ?_
        simp only [Act.put, List.setIfInBounds_toArray, List.set_cons_zero, List.set_cons_succ]
        refine wpAnyH_ready (rs := [8]) (by kernel_rfl) (by simp) ?_
        refine AllReadyH.cons rfl (fun K hK => ?_) AllReadyH.nil
        go_simp
        go_wp2_with fail
        refine hK.out _ _ True.intro (fun hHeld => ?_)
        clear hK K
        refine wpAnyH_done (by kernel_rfl) ?_ _
        have hr := refright_any s1 j1 (wr.alloc (.cells #[.int .i64 s1, .int .i64 j1] 31)).drew
        have HL : Hid (LayAt wr.heap.size s1 j1 (wr.alloc (.cells #[.int .i64 s1, .int .i64 j1] 31)).drew) := lay_new _ _ _ _
        have HB2 : Hid (Below w.heap.size w (wr.alloc (.cells #[.int .i64 s1, .int .i64 j1] 31)).drew) := (HB.out.alloc HB.out.size _).drew
        have HR2 : Hid ((wr.alloc (.cells #[.int .i64 s1, .int .i64 j1] 31)).drew.heap[w.heap.size]? = some (.cells #[.int .i64 0, .int .i64 0] 31 (0, 0))) := (Below.heap_alloc _ _ _ (lt_of_heap HR.out)).trans HR.out
        clear hG1 hG2 HB HR
        by_cases hp : RightP s1 j1
        · rw [show decide (RightP s1 j1) = true from decide_eq_true hp] at hr
          have HG3 : Hid (bodyG b = (s1, j1, 0)) := by show _ = _; rw [HG2.out, if_pos hp]
          clear hp HG2
          go_wp2_with fail
          refine hr.mono ?_
          rintro r w7 ⟨rfl, hb7⟩
          have HB7 : Hid (Below w.heap.size w w7) := HB2.out.trans (hb7.mono HB2.out.size)
          have HR7 : Hid (w7.heap[w.heap.size]? = some (.cells #[.int .i64 0, .int .i64 0] 31 (0, 0))) := (hb7.block _ (lt_of_heap HR2.out)).trans HR2.out
          have HL7 : Hid (LayAt wr.heap.size s1 j1 w7) := HL.out.below hb7
          clear hb7 hr HB2 HR2 HL
          obtain ⟨c0, c1⟩ := HL7.out.cells
          obtain ⟨r0, r1, f0, f1⟩ := agg2 HR7.out
          go_wp2
          refine bodyPost_ret (res_refget _ w.heap.size _ s1 j1 _ rfl rfl (set2_heap HR7.out _ _)) rfl ?_
          exact ⟨by rw [HG3.out]; rfl, set2_below HB7.out _ (Nat.le_refl _) _ _⟩
        · rw [show decide (RightP s1 j1) = false from decide_eq_false hp] at hr
          have HG3 : Hid (bodyG b = (0, 0, 17)) := by show _ = _; rw [HG2.out, if_neg hp]
          clear hp HG2
          go_wp2_with fail
          refine hr.mono ?_
          rintro r w7 ⟨rfl, hb7⟩
          have HB7 : Hid (Below w.heap.size w w7) := HB2.out.trans (hb7.mono HB2.out.size)
          have HR7 : Hid (w7.heap[w.heap.size]? = some (.cells #[.int .i64 0, .int .i64 0] 31 (0, 0))) := (hb7.block _ (lt_of_heap HR2.out)).trans HR2.out
          clear hb7 hr HB2 HR2 HL
          obtain ⟨r0, r1, f0, f1⟩ := agg2 HR7.out
          go_wp2
          refine bodyPost_ret (res_refget _ w.heap.size _ 0 0 _ rfl rfl (set2_heap HR7.out _ _)) rfl ?_
          exact ⟨by rw [HG3.out]; rfl, set2_below HB7.out _ (Nat.le_refl _) _ _⟩

theorem cut504 (a : ByteArray) : ∃ la : Nat, (if (504 : Int) < a.size then (504 : Int) else a.size) = (la : Int) ∧ la ≤ a.size ∧ la ≤ 504 ∧ Hid ((a.extract 0 la).size = la) := by
  by_cases h : 504 < a.size
  · exact ⟨504, by rw [if_pos (by omega)]; rfl, by omega, by omega, show _ = _ by simp; omega⟩
  · exact ⟨a.size, by rw [if_neg (by omega)], by omega, by omega, show _ = _ by simp⟩

theorem superGets_calls (s : ByteArray) (w : World) (_ : s.size ≤ maxLen) (hE : ErrT w) (hn : NibAt w) :
    Calls Tryd.prog 3 #[.string s] w fun r w' => r = .returned (.bool true) ∧ Below w.heap.size w w' := by
  have HE : Hid (ErrT w) := hE
  have HN : Hid (NibAt w) := hn
  clear hE hn
  obtain ⟨la, ea, hla, hl5, HA⟩ := cut504 s
  have hz : (s.extract 0 la).size ≤ 504 := by rw [HA.out]; exact hl5
  have HS : Hid (∀ w, Calls Tryd.prog 6 #[.int .i64 1, .string (s.extract 0 la)] w fun e w' => e = .returned (.tuple #[.string (sealS 1 (s.extract 0 la)), .int .i64 0]) ∧ Below w.heap.size w w') := fun w => by
    have h := refseal_any 1 (s.extract 0 la) w (by rw [HA.out]; unfold maxLen; omega)
    unfold sealF at h
    rw [if_pos (by decide), if_pos hz] at h
    exact h
  have hO : openF 1 (sealS 1 (s.extract 0 la)) = (padS (s.extract 0 la), 0) := open_seal (by decide) (by decide) hz
  have HG : Hid (∀ w, NibAt w → _) := fun w h => get_any _ _ w h hO (padS_size hz)
  have HQ : Hid (∀ w, _) := fun w => refget_any _ _ w hO (padS_size hz)
  clear hO hz
  generalize sealS 1 (s.extract 0 la) = sec at *
  generalize bodyG (padS (s.extract 0 la)) = g at *
  obtain ⟨g1, g2, g3⟩ := g
  dsimp only at HG HQ
  go_enter Tryd.func3, Tryd.ntmps3
  go_wp2_with fail
  refine (speaks_any _).mono ?_
  rintro r w1 ⟨rfl, hb1⟩
  have HB1 : Hid (Below w.heap.size w w1) := hb1
  clear hb1
  go_wp2_with fail
  refine (HS.out _).mono ?_
  rintro r w2 ⟨rfl, hb2⟩
  have HB2 : Hid (Below w.heap.size w w2) := HB1.out.trans (hb2.mono HB1.out.size)
  clear hb2 HB1 HS
  go_wp2_with fail
  refine (HG.out _ (HN.out.below HB2.out)).mono ?_
  rintro r w3 ⟨rfl, hb3⟩
  have hC := fun w hE => gcode_any g3 w hE
  generalize errV g3 = ev at *
  have HB3 : Hid (Below w.heap.size w (w3.alloc (.cells #[.int .i64 g1, .int .i64 g2] 26))) := (HB2.out.trans (hb3.mono HB2.out.size)).alloc (by have := HB2.out.size; have := hb3.size; omega) _
  have HL3 : Hid (LayAt w3.heap.size g1 g2 (w3.alloc (.cells #[.int .i64 g1, .int .i64 g2] 26))) := lay_new _ _ _ _
  clear hb3 HB2 HG
  go_wp2_with fail
  refine (HQ.out _).mono ?_
  rintro r w4 ⟨rfl, hb4⟩
  have hB4 : Below w.heap.size w w4 := HB3.out.trans (hb4.mono HB3.out.size)
  have HB4 : Hid (Below w.heap.size w (w4.alloc (.cells #[.int .i64 g1, .int .i64 g2] 31))) := hB4.alloc hB4.size _
  have HL4 : Hid (LayAt w3.heap.size g1 g2 (w4.alloc (.cells #[.int .i64 g1, .int .i64 g2] 31))) := (HL3.out.below hb4).below ((Below.refl _ _).alloc (Nat.le_refl _) _)
  have HM4 : Hid (LayAt w4.heap.size g1 g2 (w4.alloc (.cells #[.int .i64 g1, .int .i64 g2] 31))) := lay_new _ _ _ _
  clear hb4 hB4 HB3 HL3 HQ
  go_wp2_with fail
  refine (hC _ (HE.out.below HB4.out HE.out.lt)).mono ?_
  rintro r w5 ⟨rfl, hb5⟩
  have HB5 : Hid (Below w.heap.size w w5) := HB4.out.trans (hb5.mono HB4.out.size)
  obtain ⟨c0, c1⟩ := (HL4.out.below hb5).cells
  obtain ⟨c2, c3⟩ := (HM4.out.below hb5).cells
  clear hb5 HL4 HM4 hC HB4
  go_wp2
  go_ret
  exact ⟨rfl, HB5.out⟩

end Go.Proofs.YtadimbpgdihjlabDoor.Su
