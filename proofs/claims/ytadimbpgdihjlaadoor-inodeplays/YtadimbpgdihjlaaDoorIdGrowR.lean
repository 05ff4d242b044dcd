/-
  The document's Grow. Condition: extents that lie below 2048.
-/
import Derived.Test.YtadimbpgdihjlaaDoorIdCopy
namespace Go.Proofs.YtadimbpgdihjlaaDoor.Id
open Go.ChangeShapes Go.WideShapes Go.ChangeAt Go.RowKit Go.Proofs.Fa

variable {w : World} {B : Nat}
set_option maxRecDepth 100000
set_option maxHeartbeats 1000000

/-- What the document's Grow answers. -/
def GrowAtR (w : World) (ver : Int) (l : List Ext) (e : Ext) (r : Ending) (w' : World) : Prop :=
  (∃ ver' v', r = .returned (.tuple #[ino ver' v', .int .i64 (growE l e)]) ∧ (growE l e = 0 → ver' = ver + 1 ∧ RowR w' w.heap.size v' (appF l e)) ∧ (growE l e ≠ 0 → ver' = 0 ∧ v' = .slice none 0 0)) ∧ Below w.heap.size w w'

theorem res_growR (tm : Array Value) (rb : Nat) (W : World) (ver : Int) (a : Option Addr) (n c : Nat) (er : Value) (h4 : tm[4]? = some (.pointer (some ⟨rb, 0, none⟩))) (h5 : tm.getD 5 undef = er) (h : W.heap[rb]? = some (.cells #[.int .i64 ver, .slice a n c] 29 (0, 0))) :
    (results Tryd.f11 tm).run Tryd.prog W = .ok (.tuple #[ino ver (.slice a n c), er]) W := by
  obtain ⟨c0, c1, _⟩ := agg2 h
  clear h
  subst h5
  simp [results, Tryd.f11, go_sem, h4, c0, c1, ino]

theorem growR_any (ver : Int) (v : Value) (l : List Ext) (e : Ext) (hr : RowR w B v l) (hn : l.length ≤ 36) (hl : OkL l) (hv : 0 ≤ ver ∧ ver < 1000000) :
    Calls Tryd.prog 11 #[ino ver v, e.agg] w fun r w' => GrowAtR w ver l e r w' := by
  have hfree := fun w hr => reffree_any (w := w) (B := B) ver v l e.pos e.len hr (by omega) hl
  obtain ⟨n, hln⟩ : ∃ n, l.length = n := ⟨_, rfl⟩
  obtain ⟨a, cap, hv0, hmx⟩ := row_slice hr
  rw [hln] at hv0 hmx hn
  subst hv0
  have HR : Hid (RowR w B (.slice a n cap) l) := hr
  have HL : Hid (OkL l) := hl
  clear hr hl
  obtain ⟨p, q⟩ := e
  simp only [ino, Ext.agg] at *
  obtain ⟨w0, hw0⟩ : ∃ w0, w0 = ((w.alloc (Obj.cells #[.int .i64 ver, .slice a n cap] 29)).alloc (Obj.cells #[.int .i64 p, .int .i64 q] 39)).alloc (Obj.cells #[.int .i64 0, .slice none 0 0] 29) := ⟨_, rfl⟩
  have HB0 : Hid (Below w.heap.size w w0) := by rw [hw0]; exact (((Below.refl _ _).alloc (Nat.le_refl _) _).alloc (by simp) _).alloc (by simp; omega) _
  have HX0 : Hid (w0.heap[w.heap.size]? = some (.cells #[.int .i64 ver, .slice a n cap] 29 (0, 0))) := by
    rw [hw0]; exact ((Below.heap_alloc _ _ _ (by simp; omega)).trans (Below.heap_alloc _ _ _ (by simp))).trans (heap_alloc_new w _)
  have HE0 : Hid (w0.heap[w.heap.size + 1]? = some (.cells #[.int .i64 p, .int .i64 q] 39 (0, 0))) := by
    rw [hw0]
    have := heap_alloc_new (w.alloc (Obj.cells #[.int .i64 ver, .slice a n cap] 29)) (Obj.cells #[.int .i64 p, .int .i64 q] 39)
    rw [World.size_alloc] at this
    exact (Below.heap_alloc _ _ _ (by simp)).trans this
  have HY0 : Hid (w0.heap[w.heap.size + 2]? = some (.cells #[.int .i64 0, .slice none 0 0] 29 (0, 0))) := by
    rw [hw0]
    have := heap_alloc_new ((w.alloc (Obj.cells #[.int .i64 ver, .slice a n cap] 29)).alloc (Obj.cells #[.int .i64 p, .int .i64 q] 39)) (Obj.cells #[.int .i64 0, .slice none 0 0] 29)
    rw [World.size_alloc, World.size_alloc] at this
    exact this
  go_enter Tryd.func11, Tryd.ntmps11
  go_wp2_with fail
  rw [← hw0]
  refine (hfree w0 (row_below HR.out HB0.out (Nat.le_refl _))).mono ?_
  rintro r w1 ⟨rfl, hb1⟩
  clear hfree hw0
  have HX1 : Hid (w1.heap[w.heap.size]? = some (.cells #[.int .i64 ver, .slice a n cap] 29 (0, 0))) := (hb1.block _ (lt_of_heap HX0.out)).trans HX0.out
  have HE1 : Hid (w1.heap[w.heap.size + 1]? = some (.cells #[.int .i64 p, .int .i64 q] 39 (0, 0))) := (hb1.block _ (lt_of_heap HE0.out)).trans HE0.out
  have HY1 : Hid (w1.heap[w.heap.size + 2]? = some (.cells #[.int .i64 0, .slice none 0 0] 29 (0, 0))) := (hb1.block _ (lt_of_heap HY0.out)).trans HY0.out
  have HB1 : Hid (Below w.heap.size w w1) := HB0.out.trans (hb1.mono HB0.out.size)
  clear hb1 HX0 HE0 HY0 HB0 w0
  cases hm : mayF l ⟨p, q⟩
  · have HG : Hid (growE l ⟨p, q⟩ = 1) := by show _ = _; unfold growE; rw [hm]; rfl
    obtain ⟨y0, y1, z0, z1⟩ := agg2 HY1.out
    go_wp2
    refine bodyPost_ret (res_growR _ (w.heap.size + 1 + 1) _ 0 none 0 0 _ rfl rfl (set2_heap HY1.out _ _)) rfl ?_
    exact ⟨⟨0, .slice none 0 0, by rw [HG.out]; rfl, (fun h => by rw [HG.out] at h; cases h), fun _ => ⟨rfl, rfl⟩⟩, set2_below HB1.out _ (by omega) _ _⟩
  · obtain ⟨x0, x1, fx0, fx1⟩ := agg2 HX1.out
    obtain ⟨e0, e1, _, _⟩ := agg2 HE1.out
    have HWR : Hid (IntKind.i64.wrap (ver + 1) = ver + 1) := IntWalk.i64_in _ (by omega)
    go_wp2_with fail
    refine wp_region_held_drew (S := fun W => W.cell? ⟨w.heap.size, 0, none⟩ = some (.int .i64 ver) ∧ W.cell? ⟨w.heap.size, 1, none⟩ = some (.slice a n cap)) (by kernel_rfl) (by exact ⟨x0, x1⟩) (fun hHeld => ?_)
    change wpAnyH _ _ _ _ _ 10 (Array.replicate 10 false) _ _
    refine wpAnyH_take (i := 0) (oi := _) (v := _) (by simp only [List.getElem?_toArray, List.getElem?_cons_zero]; rfl) (by kernel_rfl) (by kernel_rfl) (by kernel_rfl) (by exact fun _ _ _ h => h) (Or.inl ⟨by rfl, by intro w' hSw; (try dsimp only at hSw); first | (go_simp; done) | (go_simp; with_reducible rfl)⟩) hHeld ?_
    simp only [Act.put, List.setIfInBounds_toArray, List.set_cons_zero, List.set_cons_succ]
    refine wpAnyH_take (i := 1) (oi := _) (v := _) (by simp only [List.getElem?_toArray, List.getElem?_cons_succ, List.getElem?_cons_zero]; rfl) (by kernel_rfl) (by kernel_rfl) (by kernel_rfl) (by exact fun _ _ _ h => h) (Or.inl ⟨by rfl, by intro w' hSw; (try dsimp only at hSw); first | (go_simp; done) | (go_simp; with_reducible rfl)⟩) hHeld ?_
    simp only [Act.put, List.setIfInBounds_toArray, List.set_cons_zero, List.set_cons_succ]
    refine wpAnyH_take (i := 2) (oi := _) (v := _) (by simp only [List.getElem?_toArray, List.getElem?_cons_succ, List.getElem?_cons_zero]; rfl) (by kernel_rfl) (by kernel_rfl) (by kernel_rfl) (by exact fun _ _ _ h => h) (Or.inl ⟨by rfl, by intro w' hSw; (try dsimp only at hSw); first | (go_simp; done) | (go_simp; with_reducible rfl)⟩) hHeld ?_
    simp only [Act.put, List.setIfInBounds_toArray, List.set_cons_zero, List.set_cons_succ]
    refine wpAnyH_take (i := 4) (oi := _) (v := _) (by simp only [List.getElem?_toArray, List.getElem?_cons_succ, List.getElem?_cons_zero]; rfl) (by kernel_rfl) (by kernel_rfl) (by kernel_rfl) (by exact fun _ _ _ h => h) (Or.inl ⟨by rfl, by intro w' hSw; (try dsimp only at hSw); first | (go_simp; done) | (go_simp; with_reducible rfl)⟩) hHeld ?_
    simp only [Act.put, List.setIfInBounds_toArray, List.set_cons_zero, List.set_cons_succ]
    refine wpAnyH_take (i := 5) (oi := _) (v := _) (by simp only [List.getElem?_toArray, List.getElem?_cons_succ, List.getElem?_cons_zero]; rfl) (by kernel_rfl) (by kernel_rfl) (by kernel_rfl) (by exact fun _ _ _ h => h) (Or.inl ⟨by rfl, by intro w' hSw; (try dsimp only at hSw); first | (go_simp; done) | (go_simp; with_reducible rfl)⟩) hHeld ?_
    simp only [Act.put, List.setIfInBounds_toArray, List.set_cons_zero, List.set_cons_succ]
    have hd0 : Below w1.heap.size w1 w1.drew := (Below.refl _ _).drew
    refine wpAnyH_ready (rs := [3, 8]) (by kernel_rfl) (by simp) ?_
    refine (AllReadyH.cons rfl (fun K hK => ?_) (AllReadyH.cons rfl (fun K hK => ?_) AllReadyH.nil))
    · skip
      go_simp
      go_wp2_with fail
      obtain ⟨WA, hWA⟩ : ∃ W, W = (w1.alloc (Obj.cells #[] 39)).drew := ⟨_, rfl⟩
      have hbA : Below w1.heap.size w1 WA := by rw [hWA]; exact ((Below.refl _ _).alloc (Nat.le_refl _) _).drew
      rw [← hWA]
      refine hK.out _ _ ⟨(hbA.cell (p := ⟨w.heap.size, 0, none⟩) (lt_of_cell x0)).trans x0, (hbA.cell (p := ⟨w.heap.size, 1, none⟩) (lt_of_cell x1)).trans x1⟩ (fun hHeld => ?_)
      clear hK K
      have hlA : WA.heap[w1.heap.size]? = some (.cells #[] 39 (0, 0)) := by rw [hWA]; exact heap_alloc_new _ _
      have hsA : WA.heap.size = w1.heap.size + 1 := by rw [hWA]; simp
      clear hWA
      refine wpAnyH_ready (rs := [6, 8]) (by kernel_rfl) (by simp) ?_
      refine (AllReadyH.cons (o := _) (by simp only [List.getElem?_toArray, List.getElem?_cons_succ, List.getElem?_cons_zero]; rfl) (fun K hK => ?_) (AllReadyH.cons (o := _) (by simp only [List.getElem?_toArray, List.getElem?_cons_succ, List.getElem?_cons_zero]; rfl) (fun K hK => ?_) AllReadyH.nil))
      · skip
        obtain ⟨v2, WB, hrun, hrow, hg, hnr⟩ := copyR_run (W := WA) (B := B) (gb := w1.heap.size) (B0 := w1.heap.size) (.slice a n cap) l (row_below (row_below HR.out HB1.out (Nat.le_refl _)) hbA (Nat.le_refl _)) (by omega) hlA (Nat.le_refl _) 27
        refine wpH_app (by rfl) rfl rfl rfl hrun ?_
        obtain ⟨a2, cap2, hv2, _⟩ := row_slice hrow
        rw [hln] at hv2
        subst hv2
        have hbB : Below w1.heap.size w1 WB := hbA.grown hg hbA.size (fun k e => by cases e; first | omega | exact Nat.le_refl _)
        refine hK.out _ _ ⟨(hbB.cell (p := ⟨w.heap.size, 0, none⟩) (lt_of_cell x0)).trans x0, (hbB.cell (p := ⟨w.heap.size, 1, none⟩) (lt_of_cell x1)).trans x1⟩ (fun hHeld => ?_)
        clear hK K
        simp only [Act.put, List.setIfInBounds_toArray, List.set_cons_zero, List.set_cons_succ]
        refine wpAnyH_take (i := 7) (oi := _) (v := _) (by simp only [List.getElem?_toArray, List.getElem?_cons_succ, List.getElem?_cons_zero]; rfl) (by kernel_rfl) (by kernel_rfl) (by kernel_rfl) (by exact fun _ _ _ h => h) (Or.inl ⟨by rfl, by intro w' hSw; (try dsimp only at hSw); first | (go_simp; done) | (go_simp; with_reducible rfl)⟩) hHeld ?_
        simp only [Act.put, List.setIfInBounds_toArray, List.set_cons_zero, List.set_cons_succ]
        have hwb := row_lt hrow
        refine wpAnyH_ready (rs := [8]) (by kernel_rfl) (by simp) ?_
        refine AllReadyH.cons rfl (fun K hK => ?_) AllReadyH.nil
        go_simp
        go_wp2_with fail
        refine hK.out _ _ (by have hq : Below w1.heap.size w1 (WB.alloc (Obj.cells #[.int .i64 0, .slice none 0 0] 29)) := hbB.alloc hbB.size _; exact ⟨(hq.cell (p := ⟨w.heap.size, 0, none⟩) (lt_of_cell x0)).trans x0, (hq.cell (p := ⟨w.heap.size, 1, none⟩) (lt_of_cell x1)).trans x1⟩) (fun hHeld => ?_)
        clear hK K
        refine wpAnyH_ready (rs := [9]) (by kernel_rfl) (by simp) ?_
        refine AllReadyH.cons rfl (fun K hK => ?_) AllReadyH.nil
        simp only [HWR.out]
        go_simp
        go_wp2_with fail
        refine hK.out _ _ (by have hq : Below w1.heap.size w1 ((WB).alloc (Obj.cells #[.int .i64 (ver + 1), .slice a2 n cap2] 29)) := hbB.alloc hbB.size _; exact ⟨(hq.cell (p := ⟨w.heap.size, 0, none⟩) (lt_of_cell x0)).trans x0, (hq.cell (p := ⟨w.heap.size, 1, none⟩) (lt_of_cell x1)).trans x1⟩) (fun hHeld => ?_)
        clear hK K
        refine wpAnyH_done (by kernel_rfl) ?_ _
        have hdone : OutR w1 (WB.alloc (Obj.cells #[.int .i64 (ver + 1), .slice a2 n cap2] 29)) (WB.heap.size) (ver + 1) (.slice a2 n cap2) l := ⟨heap_alloc_new _ _, World.ownsRow.alloc hrow _, hbB.alloc hbB.size _, hbB.size, fun i e => by have := hwb i e; omega⟩
        obtain ⟨WZ, hWZ⟩ : ∃ W, W = WB.alloc (Obj.cells #[.int .i64 (ver + 1), .slice a2 n cap2] 29) := ⟨_, rfl⟩
        obtain ⟨yb, hyb⟩ : ∃ k, k = WB.heap.size := ⟨_, rfl⟩
        rw [← hWZ, ← hyb] at hdone
        rw [← hWZ]
        try rw [← hyb]
        have HO : Hid (OutR w1 WZ yb (ver + 1) (.slice a2 n cap2) l) := hdone
        clear hdone hWZ hyb
        try clear hg hnr
        try clear hyz hyz0 hne
        have HE : Hid (WZ.heap[w.heap.size + 1]? = some (.cells #[.int .i64 p, .int .i64 q] 39 (0, 0))) := (HO.out.below.block _ (lt_of_heap HE1.out)).trans HE1.out
        have HY : Hid (WZ.heap[w.heap.size + 1 + 1]? = some (.cells #[.int .i64 0, .slice none 0 0] 29 (0, 0))) := (HO.out.below.block _ (lt_of_heap HY1.out)).trans HY1.out
        have HBZ : Hid (Below w.heap.size w WZ) := HB1.out.trans (HO.out.below.mono HB1.out.size)
        have hw1l := lt_of_heap HY1.out
        have hyg := HO.out.yge
        obtain ⟨i0, hi, hz0, hz1, hz2⟩ := info_parts info_extR'
        obtain ⟨zz0, zz1, zf0, zf1⟩ := agg2 HO.out.y
        obtain ⟨ee0, ee1, _, _⟩ := agg2 HE.out
        have HOWN : Hid (WZ.ownsRow w1.heap.size 39 2 (.slice a2 n cap2) n (ecells l)) := by have h := HO.out.row; unfold RowR at h; rw [hln] at h; exact h
        rcases last_cases l with hl0 | ⟨b, o, hl0⟩
        · have HA : Hid (appF l ⟨p, q⟩ = l ++ [⟨p, q⟩]) := by show _ = _; rw [hl0]; rfl
          have HG : Hid (growE l ⟨p, q⟩ = 0) := by show _ = _; unfold growE; rw [hm, hl0]; rfl
          have hn0 : decide ((0 : Int) < (n : Int)) = false := by rw [← hln, hl0]; rfl
          have hn0' : decide (0 < n) = false := by rw [← hln, hl0]; rfl
          have hn0'' : ¬ 0 < n := by rw [← hln, hl0]; decide
          have hn36 : ((n : Int) == 36) = false := by rw [← hln, hl0]; rfl
          go_wp2_with fail
          refine wp_region_held_drew (S := fun _ => True) (by kernel_rfl) (by exact True.intro) (fun hHeld => ?_)
          change wpAnyH _ _ _ _ _ 22 (Array.replicate 22 false) _ _
          refine wpAnyH_take (i := 0) (oi := _) (v := _) (by simp only [List.getElem?_toArray, List.getElem?_cons_zero]; rfl) (by kernel_rfl) (by kernel_rfl) (by kernel_rfl) (by exact fun _ _ _ h => h) (Or.inl ⟨by rfl, by intro w' hSw; (try dsimp only at hSw); first | (go_simp; done) | (go_simp; with_reducible rfl)⟩) hHeld ?_
          simp only [Act.put, List.setIfInBounds_toArray, List.set_cons_zero, List.set_cons_succ]
          refine wpAnyH_take (i := 1) (oi := _) (v := _) (by simp only [List.getElem?_toArray, List.getElem?_cons_succ, List.getElem?_cons_zero]; rfl) (by kernel_rfl) (by kernel_rfl) (by kernel_rfl) (by exact fun _ _ _ h => h) (Or.inl ⟨by rfl, by intro w' hSw; (try dsimp only at hSw); first | (go_simp; done) | (go_simp; with_reducible rfl)⟩) hHeld ?_
          simp only [Act.put, List.setIfInBounds_toArray, List.set_cons_zero, List.set_cons_succ]
          refine wpAnyH_take (i := 2) (oi := _) (v := _) (by simp only [List.getElem?_toArray, List.getElem?_cons_succ, List.getElem?_cons_zero]; rfl) (by kernel_rfl) (by kernel_rfl) (by kernel_rfl) (by exact fun _ _ _ h => h) (Or.inl ⟨by rfl, by intro w' hSw; (try dsimp only at hSw); first | (go_simp; done) | (go_simp; with_reducible rfl)⟩) hHeld ?_
          simp only [Act.put, List.setIfInBounds_toArray, List.set_cons_zero, List.set_cons_succ]
          refine wpAnyH_take (i := 3) (oi := _) (v := undef) (by simp only [List.getElem?_toArray, List.getElem?_cons_succ, List.getElem?_cons_zero]; rfl) (by kernel_rfl) (by kernel_rfl) (by kernel_rfl) (by exact fun _ _ _ h => h) (Or.inr ⟨by rfl, rfl⟩) hHeld ?_
          simp only [Act.put, List.setIfInBounds_toArray, List.set_cons_zero, List.set_cons_succ]
          refine wpAnyH_take (i := 4) (oi := _) (v := undef) (by simp only [List.getElem?_toArray, List.getElem?_cons_succ, List.getElem?_cons_zero]; rfl) (by kernel_rfl) (by kernel_rfl) (by kernel_rfl) (by exact fun _ _ _ h => h) (Or.inr ⟨by rfl, rfl⟩) hHeld ?_
          simp only [Act.put, List.setIfInBounds_toArray, List.set_cons_zero, List.set_cons_succ]
          refine wpAnyH_take (i := 5) (oi := _) (v := undef) (by simp only [List.getElem?_toArray, List.getElem?_cons_succ, List.getElem?_cons_zero]; rfl) (by kernel_rfl) (by kernel_rfl) (by kernel_rfl) (by exact fun _ _ _ h => h) (Or.inr ⟨by rfl, rfl⟩) hHeld ?_
          simp only [Act.put, List.setIfInBounds_toArray, List.set_cons_zero, List.set_cons_succ]
          refine wpAnyH_take (i := 6) (oi := _) (v := undef) (by simp only [List.getElem?_toArray, List.getElem?_cons_succ, List.getElem?_cons_zero]; rfl) (by kernel_rfl) (by kernel_rfl) (by kernel_rfl) (by exact fun _ _ _ h => h) (Or.inr ⟨by rfl, rfl⟩) hHeld ?_
          simp only [Act.put, List.setIfInBounds_toArray, List.set_cons_zero, List.set_cons_succ]
          refine wpAnyH_take (i := 7) (oi := _) (v := undef) (by simp only [List.getElem?_toArray, List.getElem?_cons_succ, List.getElem?_cons_zero]; rfl) (by kernel_rfl) (by kernel_rfl) (by kernel_rfl) (by exact fun _ _ _ h => h) (Or.inr ⟨by rfl, rfl⟩) hHeld ?_
          simp only [Act.put, List.setIfInBounds_toArray, List.set_cons_zero, List.set_cons_succ]
          refine wpAnyH_take (i := 8) (oi := _) (v := undef) (by simp only [List.getElem?_toArray, List.getElem?_cons_succ, List.getElem?_cons_zero]; rfl) (by kernel_rfl) (by kernel_rfl) (by kernel_rfl) (by exact fun _ _ _ h => h) (Or.inr ⟨by rfl, rfl⟩) hHeld ?_
          simp only [Act.put, List.setIfInBounds_toArray, List.set_cons_zero, List.set_cons_succ]
          refine wpAnyH_take (i := 9) (oi := _) (v := undef) (by simp only [List.getElem?_toArray, List.getElem?_cons_succ, List.getElem?_cons_zero]; rfl) (by kernel_rfl) (by kernel_rfl) (by kernel_rfl) (by exact fun _ _ _ h => h) (Or.inr ⟨by rfl, rfl⟩) hHeld ?_
          simp only [Act.put, List.setIfInBounds_toArray, List.set_cons_zero, List.set_cons_succ]
          refine wpAnyH_take (i := 10) (oi := _) (v := undef) (by simp only [List.getElem?_toArray, List.getElem?_cons_succ, List.getElem?_cons_zero]; rfl) (by kernel_rfl) (by kernel_rfl) (by kernel_rfl) (by exact fun _ _ _ h => h) (Or.inr ⟨by rfl, rfl⟩) hHeld ?_
          simp only [Act.put, List.setIfInBounds_toArray, List.set_cons_zero, List.set_cons_succ]
          refine wpAnyH_take (i := 11) (oi := _) (v := undef) (by simp only [List.getElem?_toArray, List.getElem?_cons_succ, List.getElem?_cons_zero]; rfl) (by kernel_rfl) (by kernel_rfl) (by kernel_rfl) (by exact fun _ _ _ h => h) (Or.inr ⟨by rfl, rfl⟩) hHeld ?_
          simp only [Act.put, List.setIfInBounds_toArray, List.set_cons_zero, List.set_cons_succ]
          refine wpAnyH_take (i := 12) (oi := _) (v := undef) (by simp only [List.getElem?_toArray, List.getElem?_cons_succ, List.getElem?_cons_zero]; rfl) (by kernel_rfl) (by kernel_rfl) (by kernel_rfl) (by exact fun _ _ _ h => h) (Or.inr ⟨by rfl, rfl⟩) hHeld ?_
          simp only [Act.put, List.setIfInBounds_toArray, List.set_cons_zero, List.set_cons_succ]
          refine wpAnyH_take (i := 13) (oi := _) (v := undef) (by simp only [List.getElem?_toArray, List.getElem?_cons_succ, List.getElem?_cons_zero]; rfl) (by kernel_rfl) (by kernel_rfl) (by kernel_rfl) (by exact fun _ _ _ h => h) (Or.inr ⟨by rfl, rfl⟩) hHeld ?_
          simp only [Act.put, List.setIfInBounds_toArray, List.set_cons_zero, List.set_cons_succ]
          refine wpAnyH_take (i := 14) (oi := _) (v := undef) (by simp only [List.getElem?_toArray, List.getElem?_cons_succ, List.getElem?_cons_zero]; rfl) (by kernel_rfl) (by kernel_rfl) (by kernel_rfl) (by exact fun _ _ _ h => h) (Or.inr ⟨by rfl, rfl⟩) hHeld ?_
          simp only [Act.put, List.setIfInBounds_toArray, List.set_cons_zero, List.set_cons_succ]
          refine wpAnyH_take (i := 15) (oi := _) (v := undef) (by simp only [List.getElem?_toArray, List.getElem?_cons_succ, List.getElem?_cons_zero]; rfl) (by kernel_rfl) (by kernel_rfl) (by kernel_rfl) (by exact fun _ _ _ h => h) (Or.inr ⟨by rfl, rfl⟩) hHeld ?_
          simp only [Act.put, List.setIfInBounds_toArray, List.set_cons_zero, List.set_cons_succ]
          refine wpAnyH_take (i := 16) (oi := _) (v := undef) (by simp only [List.getElem?_toArray, List.getElem?_cons_succ, List.getElem?_cons_zero]; rfl) (by kernel_rfl) (by kernel_rfl) (by kernel_rfl) (by exact fun _ _ _ h => h) (Or.inr ⟨by rfl, rfl⟩) hHeld ?_
          simp only [Act.put, List.setIfInBounds_toArray, List.set_cons_zero, List.set_cons_succ]
          refine wpAnyH_take (i := 17) (oi := _) (v := undef) (by simp only [List.getElem?_toArray, List.getElem?_cons_succ, List.getElem?_cons_zero]; rfl) (by kernel_rfl) (by kernel_rfl) (by kernel_rfl) (by exact fun _ _ _ h => h) (Or.inr ⟨by rfl, rfl⟩) hHeld ?_
          simp only [Act.put, List.setIfInBounds_toArray, List.set_cons_zero, List.set_cons_succ]
          refine wpAnyH_take (i := 18) (oi := _) (v := undef) (by simp only [List.getElem?_toArray, List.getElem?_cons_succ, List.getElem?_cons_zero]; rfl) (by kernel_rfl) (by kernel_rfl) (by kernel_rfl) (by exact fun _ _ _ h => h) (Or.inr ⟨by rfl, rfl⟩) hHeld ?_
          simp only [Act.put, List.setIfInBounds_toArray, List.set_cons_zero, List.set_cons_succ]
          refine wpAnyH_take (i := 19) (oi := _) (v := undef) (by simp only [List.getElem?_toArray, List.getElem?_cons_succ, List.getElem?_cons_zero]; rfl) (by kernel_rfl) (by kernel_rfl) (by kernel_rfl) (by exact fun _ _ _ h => h) (Or.inr ⟨by rfl, rfl⟩) hHeld ?_
          simp only [Act.put, List.setIfInBounds_toArray, List.set_cons_zero, List.set_cons_succ]
          refine wpAnyH_take (i := 20) (oi := _) (v := undef) (by simp only [List.getElem?_toArray, List.getElem?_cons_succ, List.getElem?_cons_zero]; rfl) (by kernel_rfl) (by kernel_rfl) (by kernel_rfl) (by exact fun _ _ _ h => h) (Or.inr ⟨by rfl, rfl⟩) hHeld ?_
          simp only [Act.put, List.setIfInBounds_toArray, List.set_cons_zero, List.set_cons_succ]
          refine wpAnyH_take (i := 21) (oi := _) (v := _) (by simp only [List.getElem?_toArray, List.getElem?_cons_succ, List.getElem?_cons_zero]; rfl) (by kernel_rfl) (by kernel_rfl) (by kernel_rfl) (by exact fun _ _ _ h => h) (Or.inl ⟨by rfl, by intro w' hSw; (try dsimp only at hSw); first | (go_simp; done) | (go_simp; with_reducible rfl)⟩) hHeld ?_
          simp only [Act.put, List.setIfInBounds_toArray, List.set_cons_zero, List.set_cons_succ]
          refine wpAnyH_done (by kernel_rfl) ?_ _
          have HOy : Hid (OutR w1 WZ.drew yb (ver + 1) (.slice a2 n cap2) l) := ⟨HO.out.y, World.ownsRow.drew HO.out.row, HO.out.below.drew, HO.out.yge, HO.out.ne⟩
          have HEy : Hid (WZ.drew.heap[w.heap.size + 1]? = some (.cells #[.int .i64 p, .int .i64 q] 39 (0, 0))) := HE.out
          have HYy : Hid (WZ.drew.heap[w.heap.size + 1 + 1]? = some (.cells #[.int .i64 0, .slice none 0 0] 29 (0, 0))) := HY.out
          have HBy : Hid (Below w.heap.size w WZ.drew) := HBZ.out.drew
          have HWy : Hid (WZ.drew.ownsRow w1.heap.size 39 2 (.slice a2 n cap2) n (ecells l)) := World.ownsRow.drew HOWN.out
          clear HO HE HY HBZ HOWN zz0 zz1 zf0 zf1 ee0 ee1
          generalize WZ.drew = WY at *
          obtain ⟨zz0, zz1, zf0, zf1⟩ := agg2 HOy.out.y
          obtain ⟨ee0, ee1, _, _⟩ := agg2 HEy.out
          go_wp2_with (
            at_builtin
            refine wpList_append_near _ rfl _ _ 27 rfl w1.heap.size 39 i0 _ 2 16 Tryd.underlying27 hi hz0 hz1 hz2 rfl (by decide) (.slice a2 n cap2) n (ecells l) rfl (World.ownsRow.alloc HWy.out _) ⟨WY.heap.size, 0, none⟩ 1 1 [.int .i64 p, .int .i64 q] rfl rfl (cells_new2 _ _ _ _) (by intro u hu; simp only [List.mem_cons, List.not_mem_nil, or_false] at hu; rcases hu with rfl | rfl <;> rfl) (by unfold maxLen; omega) (by omega) (by have := HOy.out.below.size; simp; omega) ?_
            intro v5 w5 hown5 hgrow hnear
            obtain ⟨a5, cap5, hv5, hm5⟩ := row_slice hown5
            subst hv5
            have HBK : Hid (∀ j, j < WY.heap.size → (∀ i, (Value.slice a2 (n) cap2).ownBlock = some i → j ≠ i) → w5.heap[j]? = WY.heap[j]?) := fun j hk hne => (hgrow.block j (by simp; omega) (fun e => hne j e.symm rfl)).trans (Below.heap_alloc _ _ _ hk)
            have HZ5 : w5.heap[yb]? = some (.cells #[.int .i64 (ver + 1), .slice a2 (n) cap2] 29 (0, 0)) := (HBK.out _ (lt_of_heap HOy.out.y) (fun g e => by have := HOy.out.ne g e; omega)).trans HOy.out.y
            have HY5 : w5.heap[w.heap.size + 1 + 1]? = some (.cells #[.int .i64 0, .slice none 0 0] 29 (0, 0)) := (HBK.out _ (lt_of_heap HYy.out) (fun g e => by have := row_ge HOy.out.row g e; omega)).trans HYy.out
            have HR5 : Hid (RowR w5 w1.heap.size (.slice a5 (n + 1) cap5) (l ++ [⟨p, q⟩])) := by
              show World.ownsRow _ _ _ _ _ _ _
              rw [ecells_append, List.length_append, hln]
              exact hown5
            have HB5 : Hid (Below w.heap.size w w5) := (HBy.out.alloc HBy.out.size _).grown hgrow (by have := HBy.out.size; simp; omega) (fun k e => by have := row_ge HOy.out.row k e; omega)
            have HN5 : Hid (∀ g, (Value.slice a5 (n + 1) cap5).ownBlock = some g → g ≠ yb ∧ g ≠ w.heap.size + 1 + 1) := by
              intro g e
              have := row_ge HR5.out g e
              refine ⟨?_, by omega⟩
              rcases hnear with h | ⟨j, h, hj⟩
              · rw [h] at e; exact HOy.out.ne g e
              · rw [h] at e; cases e
                have := lt_of_heap HOy.out.y
                simp at hj; omega
            have HY6 : (w5.setCell ⟨yb, 1, none⟩ (.slice a5 (n + 1) cap5)).heap[w.heap.size + 1 + 1]? = some (.cells #[.int .i64 0, .slice none 0 0] 29 (0, 0)) := (heap_setCell_other _ ⟨yb, 1, none⟩ _ _ (by show w.heap.size + 1 + 1 ≠ yb; omega)).trans HY5
            have HY6' : Hid (_ = _) := HY6
            obtain ⟨g0, g1, g2, g3⟩ := agg2 HZ5
            obtain ⟨u0, u1, u2, u3⟩ := agg2 HY6
            clear hgrow hnear hown5 HBK HZ5 HY5 HY6 hm5 zz0 zz1 zf0 zf1 ee0 ee1)
          refine bodyPost_ret (res_growR _ (w.heap.size + 1 + 1) _ (ver + 1) a5 (n + 1) cap5 _ rfl rfl (set2_heap HY6'.out _ _)) rfl ?_
          refine ⟨⟨ver + 1, .slice a5 (n + 1) cap5, by rw [HG.out]; rfl, fun _ => ⟨rfl, ?_⟩, fun h => absurd HG.out h⟩, set2_below (HB5.out.setCell (p := ⟨yb, 1, none⟩) (by show w.heap.size ≤ yb; omega) _) _ (by omega) _ _⟩
          rw [HA.out]
          refine row_base (row_keep HR5.out (fun g e => (set2_other (HN5.out g e).2 _ _).trans (heap_setCell_other _ ⟨yb, 1, none⟩ _ _ (HN5.out g e).1))) (by omega)
        · obtain ⟨k, hk⟩ : ∃ k, n = k + 1 := ⟨b.length, by rw [← hln, hl0]; simp⟩
          subst hk
          have hbk : k < l.length := by omega
          have hgk : l[k] = o := by
            have : k = b.length := by rw [hl0] at hln; simp at hln; omega
            subst this; simp [hl0]
          obtain ⟨g, cap', hv2⟩ := row_some HO.out.row (by omega)
          rw [hln] at hv2
          cases hv2
          obtain ⟨r0, r1⟩ := HO.out.row.ext k hbk
          rw [hgk] at r0 r1
          have hoo : Ok o := HL.out o (by rw [hl0]; simp)
          unfold Ok at hoo
          obtain ⟨op, ol⟩ := o
          dsimp only at hoo r0 r1
          have hik : (k : Int) < (k : Int) + 1 := by omega
          have hsub : IntKind.i64.wrap (k : Int) = k := IntWalk.i64_in _ (by omega)
          have hadd : IntKind.i64.wrap (op + ol) = op + ol := IntWalk.i64_in _ (by omega)
          have HS : WZ.cell? ⟨yb, 1, none⟩ = some (.slice (some ⟨g, 0, none⟩) (k + 1) cap2) ∧ WZ.cell? ⟨g, k * 2, none⟩ = some (.int .i64 op) ∧ WZ.cell? ⟨g, k * 2 + 1, none⟩ = some (.int .i64 ol) ∧ WZ.cell? ⟨w.heap.size + 1, 0, none⟩ = some (.int .i64 p) := ⟨zz1, r0, r1, ee0⟩
          go_wp2_with fail
          refine wp_region_held_drew (S := fun W => W.cell? ⟨yb, 1, none⟩ = some (.slice (some ⟨g, 0, none⟩) (k + 1) cap2) ∧ W.cell? ⟨g, k * 2, none⟩ = some (.int .i64 op) ∧ W.cell? ⟨g, k * 2 + 1, none⟩ = some (.int .i64 ol) ∧ W.cell? ⟨w.heap.size + 1, 0, none⟩ = some (.int .i64 p)) (by kernel_rfl) (by exact HS) (fun hHeld => ?_)
          change wpAnyH _ _ _ _ _ 22 (Array.replicate 22 false) _ _
          refine wpAnyH_take (i := 0) (oi := _) (v := _) (by simp only [List.getElem?_toArray, List.getElem?_cons_zero]; rfl) (by kernel_rfl) (by kernel_rfl) (by kernel_rfl) (by exact fun _ _ _ h => h) (Or.inl ⟨by rfl, by intro w' hSw; (try dsimp only at hSw); first | (go_simp; done) | (go_simp; with_reducible rfl)⟩) hHeld ?_
          simp only [Act.put, List.setIfInBounds_toArray, List.set_cons_zero, List.set_cons_succ]
          refine wpAnyH_take (i := 1) (oi := _) (v := _) (by simp only [List.getElem?_toArray, List.getElem?_cons_succ, List.getElem?_cons_zero]; rfl) (by kernel_rfl) (by kernel_rfl) (by kernel_rfl) (by exact fun _ _ _ h => h) (Or.inl ⟨by rfl, by intro w' hSw; (try dsimp only at hSw); first | (go_simp; done) | (go_simp; with_reducible rfl)⟩) hHeld ?_
          simp only [Act.put, List.setIfInBounds_toArray, List.set_cons_zero, List.set_cons_succ]
          refine wpAnyH_take (i := 2) (oi := _) (v := _) (by simp only [List.getElem?_toArray, List.getElem?_cons_succ, List.getElem?_cons_zero]; rfl) (by kernel_rfl) (by kernel_rfl) (by kernel_rfl) (by exact fun _ _ _ h => h) (Or.inl ⟨by rfl, by intro w' hSw; (try dsimp only at hSw); first | (go_simp; done) | (go_simp; with_reducible rfl)⟩) hHeld ?_
          simp only [Act.put, List.setIfInBounds_toArray, List.set_cons_zero, List.set_cons_succ]
          refine wpAnyH_take (i := 3) (oi := _) (v := _) (by simp only [List.getElem?_toArray, List.getElem?_cons_succ, List.getElem?_cons_zero]; rfl) (by kernel_rfl) (by kernel_rfl) (by kernel_rfl) (by exact fun _ _ _ h => h) (Or.inl ⟨by rfl, by intro w' hSw; (try dsimp only at hSw); first | (go_simp; done) | (go_simp; with_reducible rfl)⟩) hHeld ?_
          simp only [Act.put, List.setIfInBounds_toArray, List.set_cons_zero, List.set_cons_succ]
          refine wpAnyH_take (i := 4) (oi := _) (v := _) (by simp only [List.getElem?_toArray, List.getElem?_cons_succ, List.getElem?_cons_zero]; rfl) (by kernel_rfl) (by kernel_rfl) (by kernel_rfl) (by exact fun _ _ _ h => h) (Or.inl ⟨by rfl, by intro w' hSw; (try dsimp only at hSw); first | (go_simp; done) | (go_simp; with_reducible rfl)⟩) hHeld ?_
          simp only [Act.put, List.setIfInBounds_toArray, List.set_cons_zero, List.set_cons_succ]
          refine wpAnyH_take (i := 5) (oi := _) (v := _) (by simp only [List.getElem?_toArray, List.getElem?_cons_succ, List.getElem?_cons_zero]; rfl) (by kernel_rfl) (by kernel_rfl) (by kernel_rfl) (by exact fun _ _ _ h => h) (Or.inl ⟨by rfl, by intro w' hSw; (try dsimp only at hSw); first | (go_simp; done) | (go_simp; with_reducible rfl)⟩) hHeld ?_
          simp only [Act.put, List.setIfInBounds_toArray, List.set_cons_zero, List.set_cons_succ]
          refine wpAnyH_take (i := 6) (oi := _) (v := _) (by simp only [List.getElem?_toArray, List.getElem?_cons_succ, List.getElem?_cons_zero]; rfl) (by kernel_rfl) (by kernel_rfl) (by kernel_rfl) (by exact fun _ _ _ h => h) (Or.inl ⟨by rfl, by intro w' hSw; (try dsimp only at hSw); first | (go_simp; done) | (go_simp; with_reducible rfl)⟩) hHeld ?_
          simp only [Act.put, List.setIfInBounds_toArray, List.set_cons_zero, List.set_cons_succ]
          refine wpAnyH_take (i := 7) (oi := _) (v := _) (by simp only [List.getElem?_toArray, List.getElem?_cons_succ, List.getElem?_cons_zero]; rfl) (by kernel_rfl) (by kernel_rfl) (by kernel_rfl) (by exact fun _ _ _ h => h) (Or.inl ⟨by rfl, by intro w' hSw; (try dsimp only at hSw); first | (go_simp; done) | (go_simp; with_reducible rfl)⟩) hHeld ?_
          simp only [Act.put, List.setIfInBounds_toArray, List.set_cons_zero, List.set_cons_succ]
          refine wpAnyH_take (i := 8) (oi := _) (v := _) (by simp only [List.getElem?_toArray, List.getElem?_cons_succ, List.getElem?_cons_zero]; rfl) (by kernel_rfl) (by kernel_rfl) (by kernel_rfl) (by exact fun _ _ _ h => h) (Or.inl ⟨by rfl, by intro w' hSw; (try dsimp only at hSw); first | (go_simp; done) | (go_simp; with_reducible rfl)⟩) hHeld ?_
          simp only [Act.put, List.setIfInBounds_toArray, List.set_cons_zero, List.set_cons_succ]
          refine wpAnyH_take (i := 9) (oi := _) (v := _) (by simp only [List.getElem?_toArray, List.getElem?_cons_succ, List.getElem?_cons_zero]; rfl) (by kernel_rfl) (by kernel_rfl) (by kernel_rfl) (by exact fun _ _ _ h => h) (Or.inl ⟨by rfl, by intro w' hSw; (try dsimp only at hSw); first | (go_simp; done) | (go_simp; with_reducible rfl)⟩) hHeld ?_
          simp only [Act.put, List.setIfInBounds_toArray, List.set_cons_zero, List.set_cons_succ]
          refine wpAnyH_take (i := 10) (oi := _) (v := _) (by simp only [List.getElem?_toArray, List.getElem?_cons_succ, List.getElem?_cons_zero]; rfl) (by kernel_rfl) (by kernel_rfl) (by kernel_rfl) (by exact fun _ _ _ h => h) (Or.inl ⟨by rfl, by intro w' hSw; (try dsimp only at hSw); first | (go_simp; done) | (go_simp; with_reducible rfl)⟩) hHeld ?_
          simp only [Act.put, List.setIfInBounds_toArray, List.set_cons_zero, List.set_cons_succ]
          refine wpAnyH_take (i := 11) (oi := _) (v := _) (by simp only [List.getElem?_toArray, List.getElem?_cons_succ, List.getElem?_cons_zero]; rfl) (by kernel_rfl) (by kernel_rfl) (by kernel_rfl) (by exact fun _ _ _ h => h) (Or.inl ⟨by rfl, by intro w' hSw; (try dsimp only at hSw); first | (go_simp; done) | (go_simp; with_reducible rfl)⟩) hHeld ?_
          simp only [Act.put, List.setIfInBounds_toArray, List.set_cons_zero, List.set_cons_succ]
          refine wpAnyH_take (i := 12) (oi := _) (v := _) (by simp only [List.getElem?_toArray, List.getElem?_cons_succ, List.getElem?_cons_zero]; rfl) (by kernel_rfl) (by kernel_rfl) (by kernel_rfl) (by exact fun _ _ _ h => h) (Or.inl ⟨by rfl, by intro w' hSw; (try dsimp only at hSw); first | (go_simp; done) | (go_simp; with_reducible rfl)⟩) hHeld ?_
          simp only [Act.put, List.setIfInBounds_toArray, List.set_cons_zero, List.set_cons_succ]
          refine wpAnyH_take (i := 13) (oi := _) (v := _) (by simp only [List.getElem?_toArray, List.getElem?_cons_succ, List.getElem?_cons_zero]; rfl) (by kernel_rfl) (by kernel_rfl) (by kernel_rfl) (by exact fun _ _ _ h => h) (Or.inl ⟨by rfl, by intro w' hSw; (try dsimp only at hSw); first | (go_simp; done) | (go_simp; with_reducible rfl)⟩) hHeld ?_
          simp only [Act.put, List.setIfInBounds_toArray, List.set_cons_zero, List.set_cons_succ]
          refine wpAnyH_take (i := 14) (oi := _) (v := _) (by simp only [List.getElem?_toArray, List.getElem?_cons_succ, List.getElem?_cons_zero]; rfl) (by kernel_rfl) (by kernel_rfl) (by kernel_rfl) (by exact fun _ _ _ h => h) (Or.inl ⟨by rfl, by intro w' hSw; (try dsimp only at hSw); first | (go_simp; done) | (go_simp; with_reducible rfl)⟩) hHeld ?_
          simp only [Act.put, List.setIfInBounds_toArray, List.set_cons_zero, List.set_cons_succ]
          refine wpAnyH_take (i := 15) (oi := _) (v := _) (by simp only [List.getElem?_toArray, List.getElem?_cons_succ, List.getElem?_cons_zero]; rfl) (by kernel_rfl) (by kernel_rfl) (by kernel_rfl) (by exact fun _ _ _ h => h) (Or.inl ⟨by rfl, by intro w' hSw; (try dsimp only at hSw); first | (go_simp; done) | (go_simp; with_reducible rfl)⟩) hHeld ?_
          simp only [Act.put, List.setIfInBounds_toArray, List.set_cons_zero, List.set_cons_succ]
          refine wpAnyH_take (i := 16) (oi := _) (v := _) (by simp only [List.getElem?_toArray, List.getElem?_cons_succ, List.getElem?_cons_zero]; rfl) (by kernel_rfl) (by kernel_rfl) (by kernel_rfl) (by exact fun _ _ _ h => h) (Or.inl ⟨by rfl, by intro w' hSw; (try dsimp only at hSw); first | (go_simp; done) | (go_simp; with_reducible rfl)⟩) hHeld ?_
          simp only [Act.put, List.setIfInBounds_toArray, List.set_cons_zero, List.set_cons_succ]
          refine wpAnyH_take (i := 17) (oi := _) (v := _) (by simp only [List.getElem?_toArray, List.getElem?_cons_succ, List.getElem?_cons_zero]; rfl) (by kernel_rfl) (by kernel_rfl) (by kernel_rfl) (by exact fun _ _ _ h => h) (Or.inl ⟨by rfl, by intro w' hSw; (try dsimp only at hSw); first | (go_simp; done) | (go_simp; with_reducible rfl)⟩) hHeld ?_
          simp only [Act.put, List.setIfInBounds_toArray, List.set_cons_zero, List.set_cons_succ]
          refine wpAnyH_take (i := 18) (oi := _) (v := _) (by simp only [List.getElem?_toArray, List.getElem?_cons_succ, List.getElem?_cons_zero]; rfl) (by kernel_rfl) (by kernel_rfl) (by kernel_rfl) (by exact fun _ _ _ h => h) (Or.inl ⟨by rfl, by intro w' hSw; (try dsimp only at hSw); first | (go_simp; done) | (go_simp; with_reducible rfl)⟩) hHeld ?_
          simp only [Act.put, List.setIfInBounds_toArray, List.set_cons_zero, List.set_cons_succ]
          refine wpAnyH_take (i := 19) (oi := _) (v := _) (by simp only [List.getElem?_toArray, List.getElem?_cons_succ, List.getElem?_cons_zero]; rfl) (by kernel_rfl) (by kernel_rfl) (by kernel_rfl) (by exact fun _ _ _ h => h) (Or.inl ⟨by rfl, by intro w' hSw; (try dsimp only at hSw); first | (go_simp; done) | (go_simp; with_reducible rfl)⟩) hHeld ?_
          simp only [Act.put, List.setIfInBounds_toArray, List.set_cons_zero, List.set_cons_succ]
          refine wpAnyH_take (i := 20) (oi := _) (v := _) (by simp only [List.getElem?_toArray, List.getElem?_cons_succ, List.getElem?_cons_zero]; rfl) (by kernel_rfl) (by kernel_rfl) (by kernel_rfl) (by exact fun _ _ _ h => h) (Or.inl ⟨by rfl, by intro w' hSw; (try dsimp only at hSw); first | (go_simp; done) | (go_simp; with_reducible rfl)⟩) hHeld ?_
          simp only [Act.put, List.setIfInBounds_toArray, List.set_cons_zero, List.set_cons_succ]
          refine wpAnyH_take (i := 21) (oi := _) (v := _) (by simp only [List.getElem?_toArray, List.getElem?_cons_succ, List.getElem?_cons_zero]; rfl) (by kernel_rfl) (by kernel_rfl) (by kernel_rfl) (by exact fun _ _ _ h => h) (Or.inl ⟨by rfl, by intro w' hSw; (try dsimp only at hSw); first | (go_simp; done) | (go_simp; with_reducible rfl)⟩) hHeld ?_
          simp only [Act.put, List.setIfInBounds_toArray, List.set_cons_zero, List.set_cons_succ]
          refine wpAnyH_done (by kernel_rfl) ?_ _
          clear HS hHeld hsub
          have HOy : Hid (OutR w1 WZ.drew yb (ver + 1) (.slice (some ⟨g, 0, none⟩) (k + 1) cap2) l) := ⟨HO.out.y, World.ownsRow.drew HO.out.row, HO.out.below.drew, HO.out.yge, HO.out.ne⟩
          have HEy : Hid (WZ.drew.heap[w.heap.size + 1]? = some (.cells #[.int .i64 p, .int .i64 q] 39 (0, 0))) := HE.out
          have HYy : Hid (WZ.drew.heap[w.heap.size + 1 + 1]? = some (.cells #[.int .i64 0, .slice none 0 0] 29 (0, 0))) := HY.out
          have HBy : Hid (Below w.heap.size w WZ.drew) := HBZ.out.drew
          have HWy : Hid (WZ.drew.ownsRow w1.heap.size 39 2 (.slice (some ⟨g, 0, none⟩) (k + 1) cap2) (k + 1) (ecells l)) := World.ownsRow.drew HOWN.out
          clear HO HE HY HBZ HOWN zz0 zz1 zf0 zf1 ee0 ee1
          generalize WZ.drew = WY at *
          obtain ⟨zz0, zz1, zf0, zf1⟩ := agg2 HOy.out.y
          obtain ⟨ee0, ee1, _, _⟩ := agg2 HEy.out
          have r0' := (HOy.out.row.ext k hbk).1
          have r1' := (HOy.out.row.ext k hbk).2
          rw [hgk] at r0' r1'
          dsimp only at r0' r1'
          clear r0 r1
          cases hj : (op + ol == p)
          · have HA : Hid (appF l ⟨p, q⟩ = l ++ [⟨p, q⟩]) := by show _ = _; rw [hl0]; exact appF_new _ _ _ (by simpa using hj)
            by_cases h36 : k + 1 < 36
            · have HG : Hid (growE l ⟨p, q⟩ = 0) := by show _ = _; unfold growE; rw [hm, if_pos rfl, if_pos (.inr (by rw [hln]; omega))]
              have h36' : ((k : Int) + 1 == 36) = false := by rw [beq_eq_false_iff_ne]; omega
              go_wp2_with (
                at_builtin
                refine wpList_append_near _ rfl _ _ 27 rfl w1.heap.size 39 i0 _ 2 16 Tryd.underlying27 hi hz0 hz1 hz2 rfl (by decide) (.slice (some ⟨g, 0, none⟩) (k + 1) cap2) (k + 1) (ecells l) rfl (World.ownsRow.alloc HWy.out _) ⟨WY.heap.size, 0, none⟩ 1 1 [.int .i64 p, .int .i64 q] rfl rfl (cells_new2 _ _ _ _) (by intro u hu; simp only [List.mem_cons, List.not_mem_nil, or_false] at hu; rcases hu with rfl | rfl <;> rfl) (by unfold maxLen; omega) (by omega) (by have := HOy.out.below.size; simp; omega) ?_
                intro v5 w5 hown5 hgrow hnear
                obtain ⟨a5, cap5, hv5, hm5⟩ := row_slice hown5
                subst hv5
                have HBK : Hid (∀ j, j < WY.heap.size → (∀ i, (Value.slice (some ⟨g, 0, none⟩) (k + 1) cap2).ownBlock = some i → j ≠ i) → w5.heap[j]? = WY.heap[j]?) := fun j hk hne => (hgrow.block j (by simp; omega) (fun e => hne j e.symm rfl)).trans (Below.heap_alloc _ _ _ hk)
                have HZ5 : w5.heap[yb]? = some (.cells #[.int .i64 (ver + 1), .slice (some ⟨g, 0, none⟩) (k + 1) cap2] 29 (0, 0)) := (HBK.out _ (lt_of_heap HOy.out.y) (fun g e => by have := HOy.out.ne g e; omega)).trans HOy.out.y
                have HY5 : w5.heap[w.heap.size + 1 + 1]? = some (.cells #[.int .i64 0, .slice none 0 0] 29 (0, 0)) := (HBK.out _ (lt_of_heap HYy.out) (fun g e => by have := row_ge HOy.out.row g e; omega)).trans HYy.out
                have HR5 : Hid (RowR w5 w1.heap.size (.slice a5 (k + 1 + 1) cap5) (l ++ [⟨p, q⟩])) := by
                  show World.ownsRow _ _ _ _ _ _ _
                  rw [ecells_append, List.length_append, hln]
                  exact hown5
                have HB5 : Hid (Below w.heap.size w w5) := (HBy.out.alloc HBy.out.size _).grown hgrow (by have := HBy.out.size; simp; omega) (fun k e => by have := row_ge HOy.out.row k e; omega)
                have HN5 : Hid (∀ g, (Value.slice a5 (k + 1 + 1) cap5).ownBlock = some g → g ≠ yb ∧ g ≠ w.heap.size + 1 + 1) := by
                  intro g e
                  have := row_ge HR5.out g e
                  refine ⟨?_, by omega⟩
                  rcases hnear with h | ⟨j, h, hj⟩
                  · rw [h] at e; exact HOy.out.ne g e
                  · rw [h] at e; cases e
                    have := lt_of_heap HOy.out.y
                    simp at hj; omega
                have HY6 : (w5.setCell ⟨yb, 1, none⟩ (.slice a5 (k + 1 + 1) cap5)).heap[w.heap.size + 1 + 1]? = some (.cells #[.int .i64 0, .slice none 0 0] 29 (0, 0)) := (heap_setCell_other _ ⟨yb, 1, none⟩ _ _ (by show w.heap.size + 1 + 1 ≠ yb; omega)).trans HY5
                have HY6' : Hid (_ = _) := HY6
                obtain ⟨g0, g1, g2, g3⟩ := agg2 HZ5
                obtain ⟨u0, u1, u2, u3⟩ := agg2 HY6
                clear r0' r1' hgrow hnear hown5 HBK HZ5 HY5 HY6 hm5 zz0 zz1 zf0 zf1 ee0 ee1)
              refine bodyPost_ret (res_growR _ (w.heap.size + 1 + 1) _ (ver + 1) a5 (k + 1 + 1) cap5 _ rfl rfl (set2_heap HY6'.out _ _)) rfl ?_
              refine ⟨⟨ver + 1, .slice a5 (k + 1 + 1) cap5, by rw [HG.out]; rfl, fun _ => ⟨rfl, ?_⟩, fun h => absurd HG.out h⟩, set2_below (HB5.out.setCell (p := ⟨yb, 1, none⟩) (by show w.heap.size ≤ yb; omega) _) _ (by omega) _ _⟩
              rw [HA.out]
              refine row_base (row_keep HR5.out (fun g e => (set2_other (HN5.out g e).2 _ _).trans (heap_setCell_other _ ⟨yb, 1, none⟩ _ _ (HN5.out g e).1))) (by omega)
            · have HG : Hid (growE l ⟨p, q⟩ = 19) := by show _ = _; unfold growE; rw [hm, if_pos rfl, if_neg]; rw [hl0, joinsF_last, ← hl0, hln]; dsimp only; rw [hj]; simp; omega
              have h36' : ((k : Int) + 1 == 36) = true := by rw [beq_iff_eq]; omega
              obtain ⟨u0, u1, u2, u3⟩ := agg2 HYy.out
              go_wp2
              refine bodyPost_ret (res_growR _ (w.heap.size + 1 + 1) _ 0 none 0 0 _ rfl rfl (set2_heap HYy.out _ _)) rfl ?_
              refine ⟨⟨0, .slice none 0 0, ?_, fun h => ?_, fun _ => ⟨rfl, rfl⟩⟩, set2_below HBy.out _ (by omega) _ _⟩
              · rw [HG.out]; rfl
              · rw [HG.out] at h; cases h
          · have HA : Hid (appF l ⟨p, q⟩ = b ++ [⟨op, ol + q⟩]) := by show _ = _; rw [hl0]; exact appF_join _ _ _ (by simpa using hj)
            have HG : Hid (growE l ⟨p, q⟩ = 0) := by show _ = _; unfold growE; rw [hm, if_pos rfl, if_pos (.inl (by rw [hl0, joinsF_last]; exact hj))]
            have hpq : Ok ⟨p, q⟩ := (belowF_ok _).1 (by unfold mayF at hm; simp only [Bool.and_eq_true] at hm; exact hm.1)
            unfold Ok at hpq
            dsimp only at hpq
            have rf : WY.frozen? ⟨g, k * 2 + 1, none⟩ = false := World.ownsRow.frozenAt (n := k + 1) HWy.out _
            have HL0 : Hid (l = b ++ [⟨op, ol⟩]) := hl0
            clear hl0 hgk
            go_wp2_with fail
            go_region
            obtain ⟨w5, hw5⟩ : ∃ w5, w5 = (WY.setCell ⟨g, k * 2 + 1, none⟩ (.int .i64 (ol + q))).drew := ⟨_, rfl⟩
            rw [← hw5]
            have hg1 : g ≠ yb := HOy.out.ne g rfl
            have hg2 : g ≠ w.heap.size + 1 + 1 := by have := row_ge HOy.out.row g rfl; omega
            have HZ5 : w5.heap[yb]? = some (.cells #[.int .i64 (ver + 1), .slice (some ⟨g, 0, none⟩) (k + 1) cap2] 29 (0, 0)) := by rw [hw5]; exact (heap_setCell_other _ ⟨g, k * 2 + 1, none⟩ _ _ (by show yb ≠ g; omega)).trans HOy.out.y
            have HY5 : w5.heap[w.heap.size + 1 + 1]? = some (.cells #[.int .i64 0, .slice none 0 0] 29 (0, 0)) := by rw [hw5]; exact (heap_setCell_other _ ⟨g, k * 2 + 1, none⟩ _ _ (by show w.heap.size + 1 + 1 ≠ g; omega)).trans HYy.out
            have HY5' : Hid (_ = _) := HY5
            have HR5 : Hid (RowR w5 w1.heap.size (.slice (some ⟨g, 0, none⟩) (k + 1) cap2) (b ++ [⟨op, ol + q⟩])) := by
              have h5 := World.ownsRow.drew (World.ownsRow.stored HWy.out (k * 2 + 1) (.int .i64 (ol + q))).1
              rw [hw5]
              show World.ownsRow _ _ _ _ _ _ _
              have hkb : k = b.length := by have := hln; rw [HL0.out] at this; simp at this; omega
              rw [show (b ++ [(⟨op, ol + q⟩ : Ext)]).length = k + 1 by simp; omega, ← ecells_set_len b ⟨op, ol⟩ (ol + q), ← hkb, ← HL0.out]
              exact h5
            have HB5 : Hid (Below w.heap.size w w5) := by
              rw [hw5]
              exact (HBy.out.setCell (p := ⟨g, k * 2 + 1, none⟩) (by show w.heap.size ≤ g; have := row_ge HOy.out.row g rfl; omega) _).drew
            obtain ⟨g0, g1, g2, g3⟩ := agg2 HZ5
            obtain ⟨u0, u1, u2, u3⟩ := agg2 HY5
            clear hw5 HZ5 HY5 rf r0' r1' zz0 zz1 zf0 zf1 ee0 ee1
            go_wp2
            refine bodyPost_ret (res_growR _ (w.heap.size + 1 + 1) _ (ver + 1) (some ⟨g, 0, none⟩) (k + 1) cap2 _ rfl rfl (set2_heap HY5'.out _ _)) rfl ?_
            refine ⟨⟨ver + 1, .slice (some ⟨g, 0, none⟩) (k + 1) cap2, by rw [HG.out]; rfl, fun _ => ⟨rfl, ?_⟩, fun h => absurd HG.out h⟩, set2_below HB5.out _ (by omega) _ _⟩
            rw [HA.out]
            exact row_base (row_keep HR5.out (fun g' e => set2_other (by cases e; exact hg2) _ _)) (by omega)
      · skip
        go_simp
        go_wp2_with fail
        obtain ⟨WC, hWC⟩ : ∃ W, W = (WA).alloc (Obj.cells #[.int .i64 0, .slice none 0 0] 29) := ⟨_, rfl⟩
        have hbC : Below w1.heap.size w1 WC := by rw [hWC]; exact hbA.alloc hbA.size _
        rw [← hWC]
        refine hK.out _ _ ⟨(hbC.cell (p := ⟨w.heap.size, 0, none⟩) (lt_of_cell x0)).trans x0, (hbC.cell (p := ⟨w.heap.size, 1, none⟩) (lt_of_cell x1)).trans x1⟩ (fun hHeld => ?_)
        clear hK K
        have hyz0 : WC.heap[w1.heap.size + 1]? = some (.cells #[.int .i64 0, .slice none 0 0] 29 (0, 0)) := by rw [hWC, ← hsA]; exact heap_alloc_new _ _
        have hlC : WC.heap[w1.heap.size]? = some (.cells #[] 39 (0, 0)) := by rw [hWC]; exact (Below.heap_alloc _ _ _ (lt_of_heap hlA)).trans hlA
        clear hWC
        refine wpAnyH_ready (rs := [6]) (by kernel_rfl) (by simp) ?_
        refine AllReadyH.cons (o := _) (by simp only [List.getElem?_toArray, List.getElem?_cons_succ, List.getElem?_cons_zero]; rfl) (fun K hK => ?_) AllReadyH.nil
        obtain ⟨v2, WD, hrun, hrow, hg, hnr⟩ := copyR_run (W := WC) (B := B) (gb := w1.heap.size) (B0 := w1.heap.size) (.slice a n cap) l (row_below (row_below HR.out HB1.out (Nat.le_refl _)) hbC (Nat.le_refl _)) (by omega) hlC (Nat.le_refl _) 27
        refine wpH_app (by rfl) rfl rfl rfl hrun ?_
        obtain ⟨a2, cap2, hv2, _⟩ := row_slice hrow
        rw [hln] at hv2
        subst hv2
        have hbD : Below w1.heap.size w1 WD := hbC.grown hg hbC.size (fun k e => by cases e; first | omega | exact Nat.le_refl _)
        refine hK.out _ _ ⟨(hbD.cell (p := ⟨w.heap.size, 0, none⟩) (lt_of_cell x0)).trans x0, (hbD.cell (p := ⟨w.heap.size, 1, none⟩) (lt_of_cell x1)).trans x1⟩ (fun hHeld => ?_)
        clear hK K
        simp only [Act.put, List.setIfInBounds_toArray, List.set_cons_zero, List.set_cons_succ]
        have hyz : WD.heap[w1.heap.size + 1]? = some (.cells #[.int .i64 0, .slice none 0 0] 29 (0, 0)) := (hg.block _ (lt_of_heap hyz0) (fun e => by have := Option.some.inj e; omega)).trans hyz0
        have hne : ∀ i, (Value.slice a2 n cap2).ownBlock = some i → i ≠ w1.heap.size + 1 := by
          intro i e
          have hlt := lt_of_heap hyz0
          rcases hnr with h | ⟨j, h, hj⟩
          · rw [h] at e; have e2 := Option.some.inj e; dsimp only at e2; omega
          · rw [h] at e; have e2 := Option.some.inj e; omega
        refine wpAnyH_take (i := 7) (oi := _) (v := _) (by simp only [List.getElem?_toArray, List.getElem?_cons_succ, List.getElem?_cons_zero]; rfl) (by kernel_rfl) (by kernel_rfl) (by kernel_rfl) (by exact fun _ _ _ h => h) (Or.inl ⟨by rfl, by intro w' hSw; (try dsimp only at hSw); first | (go_simp; done) | (go_simp; with_reducible rfl)⟩) hHeld ?_
        simp only [Act.put, List.setIfInBounds_toArray, List.set_cons_zero, List.set_cons_succ]
        refine wpAnyH_ready (rs := [9]) (by kernel_rfl) (by simp) ?_
        refine AllReadyH.cons rfl (fun K hK => ?_) AllReadyH.nil
        obtain ⟨y0, y1, f0, f1⟩ := agg2 hyz
        simp only [HWR.out]
        go_simp
        go_wp2_with fail
        refine hK.out _ _ (by have hq : Below w1.heap.size w1 (((WD).setCell ⟨w1.heap.size + 1, 0, none⟩ (.int .i64 (ver + 1))).setCell ⟨w1.heap.size + 1, 1, none⟩ (.slice a2 n cap2)) := set2_below hbD _ (by first | omega | exact Nat.le_refl _) _ _; exact ⟨(hq.cell (p := ⟨w.heap.size, 0, none⟩) (lt_of_cell x0)).trans x0, (hq.cell (p := ⟨w.heap.size, 1, none⟩) (lt_of_cell x1)).trans x1⟩) (fun hHeld => ?_)
        clear hK K y0 y1 f0 f1
        refine wpAnyH_done (by kernel_rfl) ?_ _
        have hdone : OutR w1 ((WD.setCell ⟨w1.heap.size + 1, 0, none⟩ (.int .i64 (ver + 1))).setCell ⟨w1.heap.size + 1, 1, none⟩ (.slice a2 n cap2)) (w1.heap.size + 1) (ver + 1) (.slice a2 n cap2) l := ⟨set2_heap hyz _ _, row_keep hrow (fun g e => set2_other (hne g e) _ _), set2_below hbD _ (by omega) _ _, by omega, hne⟩
        obtain ⟨WZ, hWZ⟩ : ∃ W, W = (WD.setCell ⟨w1.heap.size + 1, 0, none⟩ (.int .i64 (ver + 1))).setCell ⟨w1.heap.size + 1, 1, none⟩ (.slice a2 n cap2) := ⟨_, rfl⟩
        obtain ⟨yb, hyb⟩ : ∃ k, k = w1.heap.size + 1 := ⟨_, rfl⟩
        rw [← hWZ, ← hyb] at hdone
        rw [← hWZ]
        try rw [← hyb]
        have HO : Hid (OutR w1 WZ yb (ver + 1) (.slice a2 n cap2) l) := hdone
        clear hdone hWZ hyb
        try clear hg hnr
        try clear hyz hyz0 hne
        have HE : Hid (WZ.heap[w.heap.size + 1]? = some (.cells #[.int .i64 p, .int .i64 q] 39 (0, 0))) := (HO.out.below.block _ (lt_of_heap HE1.out)).trans HE1.out
        have HY : Hid (WZ.heap[w.heap.size + 1 + 1]? = some (.cells #[.int .i64 0, .slice none 0 0] 29 (0, 0))) := (HO.out.below.block _ (lt_of_heap HY1.out)).trans HY1.out
        have HBZ : Hid (Below w.heap.size w WZ) := HB1.out.trans (HO.out.below.mono HB1.out.size)
        have hw1l := lt_of_heap HY1.out
        have hyg := HO.out.yge
        obtain ⟨i0, hi, hz0, hz1, hz2⟩ := info_parts info_extR'
        obtain ⟨zz0, zz1, zf0, zf1⟩ := agg2 HO.out.y
        obtain ⟨ee0, ee1, _, _⟩ := agg2 HE.out
        have HOWN : Hid (WZ.ownsRow w1.heap.size 39 2 (.slice a2 n cap2) n (ecells l)) := by have h := HO.out.row; unfold RowR at h; rw [hln] at h; exact h
        rcases last_cases l with hl0 | ⟨b, o, hl0⟩
        · have HA : Hid (appF l ⟨p, q⟩ = l ++ [⟨p, q⟩]) := by show _ = _; rw [hl0]; rfl
          have HG : Hid (growE l ⟨p, q⟩ = 0) := by show _ = _; unfold growE; rw [hm, hl0]; rfl
          have hn0 : decide ((0 : Int) < (n : Int)) = false := by rw [← hln, hl0]; rfl
          have hn0' : decide (0 < n) = false := by rw [← hln, hl0]; rfl
          have hn0'' : ¬ 0 < n := by rw [← hln, hl0]; decide
          have hn36 : ((n : Int) == 36) = false := by rw [← hln, hl0]; rfl
          go_wp2_with fail
          refine wp_region_held_drew (S := fun _ => True) (by kernel_rfl) (by exact True.intro) (fun hHeld => ?_)
          change wpAnyH _ _ _ _ _ 22 (Array.replicate 22 false) _ _
          refine wpAnyH_take (i := 0) (oi := _) (v := _) (by simp only [List.getElem?_toArray, List.getElem?_cons_zero]; rfl) (by kernel_rfl) (by kernel_rfl) (by kernel_rfl) (by exact fun _ _ _ h => h) (Or.inl ⟨by rfl, by intro w' hSw; (try dsimp only at hSw); first | (go_simp; done) | (go_simp; with_reducible rfl)⟩) hHeld ?_
          simp only [Act.put, List.setIfInBounds_toArray, List.set_cons_zero, List.set_cons_succ]
          refine wpAnyH_take (i := 1) (oi := _) (v := _) (by simp only [List.getElem?_toArray, List.getElem?_cons_succ, List.getElem?_cons_zero]; rfl) (by kernel_rfl) (by kernel_rfl) (by kernel_rfl) (by exact fun _ _ _ h => h) (Or.inl ⟨by rfl, by intro w' hSw; (try dsimp only at hSw); first | (go_simp; done) | (go_simp; with_reducible rfl)⟩) hHeld ?_
          simp only [Act.put, List.setIfInBounds_toArray, List.set_cons_zero, List.set_cons_succ]
          refine wpAnyH_take (i := 2) (oi := _) (v := _) (by simp only [List.getElem?_toArray, List.getElem?_cons_succ, List.getElem?_cons_zero]; rfl) (by kernel_rfl) (by kernel_rfl) (by kernel_rfl) (by exact fun _ _ _ h => h) (Or.inl ⟨by rfl, by intro w' hSw; (try dsimp only at hSw); first | (go_simp; done) | (go_simp; with_reducible rfl)⟩) hHeld ?_
          simp only [Act.put, List.setIfInBounds_toArray, List.set_cons_zero, List.set_cons_succ]
          refine wpAnyH_take (i := 3) (oi := _) (v := undef) (by simp only [List.getElem?_toArray, List.getElem?_cons_succ, List.getElem?_cons_zero]; rfl) (by kernel_rfl) (by kernel_rfl) (by kernel_rfl) (by exact fun _ _ _ h => h) (Or.inr ⟨by rfl, rfl⟩) hHeld ?_
          simp only [Act.put, List.setIfInBounds_toArray, List.set_cons_zero, List.set_cons_succ]
          refine wpAnyH_take (i := 4) (oi := _) (v := undef) (by simp only [List.getElem?_toArray, List.getElem?_cons_succ, List.getElem?_cons_zero]; rfl) (by kernel_rfl) (by kernel_rfl) (by kernel_rfl) (by exact fun _ _ _ h => h) (Or.inr ⟨by rfl, rfl⟩) hHeld ?_
          simp only [Act.put, List.setIfInBounds_toArray, List.set_cons_zero, List.set_cons_succ]
          refine wpAnyH_take (i := 5) (oi := _) (v := undef) (by simp only [List.getElem?_toArray, List.getElem?_cons_succ, List.getElem?_cons_zero]; rfl) (by kernel_rfl) (by kernel_rfl) (by kernel_rfl) (by exact fun _ _ _ h => h) (Or.inr ⟨by rfl, rfl⟩) hHeld ?_
          simp only [Act.put, List.setIfInBounds_toArray, List.set_cons_zero, List.set_cons_succ]
          refine wpAnyH_take (i := 6) (oi := _) (v := undef) (by simp only [List.getElem?_toArray, List.getElem?_cons_succ, List.getElem?_cons_zero]; rfl) (by kernel_rfl) (by kernel_rfl) (by kernel_rfl) (by exact fun _ _ _ h => h) (Or.inr ⟨by rfl, rfl⟩) hHeld ?_
          simp only [Act.put, List.setIfInBounds_toArray, List.set_cons_zero, List.set_cons_succ]
          refine wpAnyH_take (i := 7) (oi := _) (v := undef) (by simp only [List.getElem?_toArray, List.getElem?_cons_succ, List.getElem?_cons_zero]; rfl) (by kernel_rfl) (by kernel_rfl) (by kernel_rfl) (by exact fun _ _ _ h => h) (Or.inr ⟨by rfl, rfl⟩) hHeld ?_
          simp only [Act.put, List.setIfInBounds_toArray, List.set_cons_zero, List.set_cons_succ]
          refine wpAnyH_take (i := 8) (oi := _) (v := undef) (by simp only [List.getElem?_toArray, List.getElem?_cons_succ, List.getElem?_cons_zero]; rfl) (by kernel_rfl) (by kernel_rfl) (by kernel_rfl) (by exact fun _ _ _ h => h) (Or.inr ⟨by rfl, rfl⟩) hHeld ?_
          simp only [Act.put, List.setIfInBounds_toArray, List.set_cons_zero, List.set_cons_succ]
          refine wpAnyH_take (i := 9) (oi := _) (v := undef) (by simp only [List.getElem?_toArray, List.getElem?_cons_succ, List.getElem?_cons_zero]; rfl) (by kernel_rfl) (by kernel_rfl) (by kernel_rfl) (by exact fun _ _ _ h => h) (Or.inr ⟨by rfl, rfl⟩) hHeld ?_
          simp only [Act.put, List.setIfInBounds_toArray, List.set_cons_zero, List.set_cons_succ]
          refine wpAnyH_take (i := 10) (oi := _) (v := undef) (by simp only [List.getElem?_toArray, List.getElem?_cons_succ, List.getElem?_cons_zero]; rfl) (by kernel_rfl) (by kernel_rfl) (by kernel_rfl) (by exact fun _ _ _ h => h) (Or.inr ⟨by rfl, rfl⟩) hHeld ?_
          simp only [Act.put, List.setIfInBounds_toArray, List.set_cons_zero, List.set_cons_succ]
          refine wpAnyH_take (i := 11) (oi := _) (v := undef) (by simp only [List.getElem?_toArray, List.getElem?_cons_succ, List.getElem?_cons_zero]; rfl) (by kernel_rfl) (by kernel_rfl) (by kernel_rfl) (by exact fun _ _ _ h => h) (Or.inr ⟨by rfl, rfl⟩) hHeld ?_
          simp only [Act.put, List.setIfInBounds_toArray, List.set_cons_zero, List.set_cons_succ]
          refine wpAnyH_take (i := 12) (oi := _) (v := undef) (by simp only [List.getElem?_toArray, List.getElem?_cons_succ, List.getElem?_cons_zero]; rfl) (by kernel_rfl) (by kernel_rfl) (by kernel_rfl) (by exact fun _ _ _ h => h) (Or.inr ⟨by rfl, rfl⟩) hHeld ?_
          simp only [Act.put, List.setIfInBounds_toArray, List.set_cons_zero, List.set_cons_succ]
          refine wpAnyH_take (i := 13) (oi := _) (v := undef) (by simp only [List.getElem?_toArray, List.getElem?_cons_succ, List.getElem?_cons_zero]; rfl) (by kernel_rfl) (by kernel_rfl) (by kernel_rfl) (by exact fun _ _ _ h => h) (Or.inr ⟨by rfl, rfl⟩) hHeld ?_
          simp only [Act.put, List.setIfInBounds_toArray, List.set_cons_zero, List.set_cons_succ]
          refine wpAnyH_take (i := 14) (oi := _) (v := undef) (by simp only [List.getElem?_toArray, List.getElem?_cons_succ, List.getElem?_cons_zero]; rfl) (by kernel_rfl) (by kernel_rfl) (by kernel_rfl) (by exact fun _ _ _ h => h) (Or.inr ⟨by rfl, rfl⟩) hHeld ?_
          simp only [Act.put, List.setIfInBounds_toArray, List.set_cons_zero, List.set_cons_succ]
          refine wpAnyH_take (i := 15) (oi := _) (v := undef) (by simp only [List.getElem?_toArray, List.getElem?_cons_succ, List.getElem?_cons_zero]; rfl) (by kernel_rfl) (by kernel_rfl) (by kernel_rfl) (by exact fun _ _ _ h => h) (Or.inr ⟨by rfl, rfl⟩) hHeld ?_
          simp only [Act.put, List.setIfInBounds_toArray, List.set_cons_zero, List.set_cons_succ]
          refine wpAnyH_take (i := 16) (oi := _) (v := undef) (by simp only [List.getElem?_toArray, List.getElem?_cons_succ, List.getElem?_cons_zero]; rfl) (by kernel_rfl) (by kernel_rfl) (by kernel_rfl) (by exact fun _ _ _ h => h) (Or.inr ⟨by rfl, rfl⟩) hHeld ?_
          simp only [Act.put, List.setIfInBounds_toArray, List.set_cons_zero, List.set_cons_succ]
          refine wpAnyH_take (i := 17) (oi := _) (v := undef) (by simp only [List.getElem?_toArray, List.getElem?_cons_succ, List.getElem?_cons_zero]; rfl) (by kernel_rfl) (by kernel_rfl) (by kernel_rfl) (by exact fun _ _ _ h => h) (Or.inr ⟨by rfl, rfl⟩) hHeld ?_
          simp only [Act.put, List.setIfInBounds_toArray, List.set_cons_zero, List.set_cons_succ]
          refine wpAnyH_take (i := 18) (oi := _) (v := undef) (by simp only [List.getElem?_toArray, List.getElem?_cons_succ, List.getElem?_cons_zero]; rfl) (by kernel_rfl) (by kernel_rfl) (by kernel_rfl) (by exact fun _ _ _ h => h) (Or.inr ⟨by rfl, rfl⟩) hHeld ?_
          simp only [Act.put, List.setIfInBounds_toArray, List.set_cons_zero, List.set_cons_succ]
          refine wpAnyH_take (i := 19) (oi := _) (v := undef) (by simp only [List.getElem?_toArray, List.getElem?_cons_succ, List.getElem?_cons_zero]; rfl) (by kernel_rfl) (by kernel_rfl) (by kernel_rfl) (by exact fun _ _ _ h => h) (Or.inr ⟨by rfl, rfl⟩) hHeld ?_
          simp only [Act.put, List.setIfInBounds_toArray, List.set_cons_zero, List.set_cons_succ]
          refine wpAnyH_take (i := 20) (oi := _) (v := undef) (by simp only [List.getElem?_toArray, List.getElem?_cons_succ, List.getElem?_cons_zero]; rfl) (by kernel_rfl) (by kernel_rfl) (by kernel_rfl) (by exact fun _ _ _ h => h) (Or.inr ⟨by rfl, rfl⟩) hHeld ?_
          simp only [Act.put, List.setIfInBounds_toArray, List.set_cons_zero, List.set_cons_succ]
          refine wpAnyH_take (i := 21) (oi := _) (v := _) (by simp only [List.getElem?_toArray, List.getElem?_cons_succ, List.getElem?_cons_zero]; rfl) (by kernel_rfl) (by kernel_rfl) (by kernel_rfl) (by exact fun _ _ _ h => h) (Or.inl ⟨by rfl, by intro w' hSw; (try dsimp only at hSw); first | (go_simp; done) | (go_simp; with_reducible rfl)⟩) hHeld ?_
          simp only [Act.put, List.setIfInBounds_toArray, List.set_cons_zero, List.set_cons_succ]
          refine wpAnyH_done (by kernel_rfl) ?_ _
          have HOy : Hid (OutR w1 WZ.drew yb (ver + 1) (.slice a2 n cap2) l) := ⟨HO.out.y, World.ownsRow.drew HO.out.row, HO.out.below.drew, HO.out.yge, HO.out.ne⟩
          have HEy : Hid (WZ.drew.heap[w.heap.size + 1]? = some (.cells #[.int .i64 p, .int .i64 q] 39 (0, 0))) := HE.out
          have HYy : Hid (WZ.drew.heap[w.heap.size + 1 + 1]? = some (.cells #[.int .i64 0, .slice none 0 0] 29 (0, 0))) := HY.out
          have HBy : Hid (Below w.heap.size w WZ.drew) := HBZ.out.drew
          have HWy : Hid (WZ.drew.ownsRow w1.heap.size 39 2 (.slice a2 n cap2) n (ecells l)) := World.ownsRow.drew HOWN.out
          clear HO HE HY HBZ HOWN zz0 zz1 zf0 zf1 ee0 ee1
          generalize WZ.drew = WY at *
          obtain ⟨zz0, zz1, zf0, zf1⟩ := agg2 HOy.out.y
          obtain ⟨ee0, ee1, _, _⟩ := agg2 HEy.out
          go_wp2_with (
            at_builtin
            refine wpList_append_near _ rfl _ _ 27 rfl w1.heap.size 39 i0 _ 2 16 Tryd.underlying27 hi hz0 hz1 hz2 rfl (by decide) (.slice a2 n cap2) n (ecells l) rfl (World.ownsRow.alloc HWy.out _) ⟨WY.heap.size, 0, none⟩ 1 1 [.int .i64 p, .int .i64 q] rfl rfl (cells_new2 _ _ _ _) (by intro u hu; simp only [List.mem_cons, List.not_mem_nil, or_false] at hu; rcases hu with rfl | rfl <;> rfl) (by unfold maxLen; omega) (by omega) (by have := HOy.out.below.size; simp; omega) ?_
            intro v5 w5 hown5 hgrow hnear
            obtain ⟨a5, cap5, hv5, hm5⟩ := row_slice hown5
            subst hv5
            have HBK : Hid (∀ j, j < WY.heap.size → (∀ i, (Value.slice a2 (n) cap2).ownBlock = some i → j ≠ i) → w5.heap[j]? = WY.heap[j]?) := fun j hk hne => (hgrow.block j (by simp; omega) (fun e => hne j e.symm rfl)).trans (Below.heap_alloc _ _ _ hk)
            have HZ5 : w5.heap[yb]? = some (.cells #[.int .i64 (ver + 1), .slice a2 (n) cap2] 29 (0, 0)) := (HBK.out _ (lt_of_heap HOy.out.y) (fun g e => by have := HOy.out.ne g e; omega)).trans HOy.out.y
            have HY5 : w5.heap[w.heap.size + 1 + 1]? = some (.cells #[.int .i64 0, .slice none 0 0] 29 (0, 0)) := (HBK.out _ (lt_of_heap HYy.out) (fun g e => by have := row_ge HOy.out.row g e; omega)).trans HYy.out
            have HR5 : Hid (RowR w5 w1.heap.size (.slice a5 (n + 1) cap5) (l ++ [⟨p, q⟩])) := by
              show World.ownsRow _ _ _ _ _ _ _
              rw [ecells_append, List.length_append, hln]
              exact hown5
            have HB5 : Hid (Below w.heap.size w w5) := (HBy.out.alloc HBy.out.size _).grown hgrow (by have := HBy.out.size; simp; omega) (fun k e => by have := row_ge HOy.out.row k e; omega)
            have HN5 : Hid (∀ g, (Value.slice a5 (n + 1) cap5).ownBlock = some g → g ≠ yb ∧ g ≠ w.heap.size + 1 + 1) := by
              intro g e
              have := row_ge HR5.out g e
              refine ⟨?_, by omega⟩
              rcases hnear with h | ⟨j, h, hj⟩
              · rw [h] at e; exact HOy.out.ne g e
              · rw [h] at e; cases e
                have := lt_of_heap HOy.out.y
                simp at hj; omega
            have HY6 : (w5.setCell ⟨yb, 1, none⟩ (.slice a5 (n + 1) cap5)).heap[w.heap.size + 1 + 1]? = some (.cells #[.int .i64 0, .slice none 0 0] 29 (0, 0)) := (heap_setCell_other _ ⟨yb, 1, none⟩ _ _ (by show w.heap.size + 1 + 1 ≠ yb; omega)).trans HY5
            have HY6' : Hid (_ = _) := HY6
            obtain ⟨g0, g1, g2, g3⟩ := agg2 HZ5
            obtain ⟨u0, u1, u2, u3⟩ := agg2 HY6
            clear hgrow hnear hown5 HBK HZ5 HY5 HY6 hm5 zz0 zz1 zf0 zf1 ee0 ee1)
          refine bodyPost_ret (res_growR _ (w.heap.size + 1 + 1) _ (ver + 1) a5 (n + 1) cap5 _ rfl rfl (set2_heap HY6'.out _ _)) rfl ?_
          refine ⟨⟨ver + 1, .slice a5 (n + 1) cap5, by rw [HG.out]; rfl, fun _ => ⟨rfl, ?_⟩, fun h => absurd HG.out h⟩, set2_below (HB5.out.setCell (p := ⟨yb, 1, none⟩) (by show w.heap.size ≤ yb; omega) _) _ (by omega) _ _⟩
          rw [HA.out]
          refine row_base (row_keep HR5.out (fun g e => (set2_other (HN5.out g e).2 _ _).trans (heap_setCell_other _ ⟨yb, 1, none⟩ _ _ (HN5.out g e).1))) (by omega)
        · obtain ⟨k, hk⟩ : ∃ k, n = k + 1 := ⟨b.length, by rw [← hln, hl0]; simp⟩
          subst hk
          have hbk : k < l.length := by omega
          have hgk : l[k] = o := by
            have : k = b.length := by rw [hl0] at hln; simp at hln; omega
            subst this; simp [hl0]
          obtain ⟨g, cap', hv2⟩ := row_some HO.out.row (by omega)
          rw [hln] at hv2
          cases hv2
          obtain ⟨r0, r1⟩ := HO.out.row.ext k hbk
          rw [hgk] at r0 r1
          have hoo : Ok o := HL.out o (by rw [hl0]; simp)
          unfold Ok at hoo
          obtain ⟨op, ol⟩ := o
          dsimp only at hoo r0 r1
          have hik : (k : Int) < (k : Int) + 1 := by omega
          have hsub : IntKind.i64.wrap (k : Int) = k := IntWalk.i64_in _ (by omega)
          have hadd : IntKind.i64.wrap (op + ol) = op + ol := IntWalk.i64_in _ (by omega)
          have HS : WZ.cell? ⟨yb, 1, none⟩ = some (.slice (some ⟨g, 0, none⟩) (k + 1) cap2) ∧ WZ.cell? ⟨g, k * 2, none⟩ = some (.int .i64 op) ∧ WZ.cell? ⟨g, k * 2 + 1, none⟩ = some (.int .i64 ol) ∧ WZ.cell? ⟨w.heap.size + 1, 0, none⟩ = some (.int .i64 p) := ⟨zz1, r0, r1, ee0⟩
          go_wp2_with fail
          refine wp_region_held_drew (S := fun W => W.cell? ⟨yb, 1, none⟩ = some (.slice (some ⟨g, 0, none⟩) (k + 1) cap2) ∧ W.cell? ⟨g, k * 2, none⟩ = some (.int .i64 op) ∧ W.cell? ⟨g, k * 2 + 1, none⟩ = some (.int .i64 ol) ∧ W.cell? ⟨w.heap.size + 1, 0, none⟩ = some (.int .i64 p)) (by kernel_rfl) (by exact HS) (fun hHeld => ?_)
          change wpAnyH _ _ _ _ _ 22 (Array.replicate 22 false) _ _
          refine wpAnyH_take (i := 0) (oi := _) (v := _) (by simp only [List.getElem?_toArray, List.getElem?_cons_zero]; rfl) (by kernel_rfl) (by kernel_rfl) (by kernel_rfl) (by exact fun _ _ _ h => h) (Or.inl ⟨by rfl, by intro w' hSw; (try dsimp only at hSw); first | (go_simp; done) | (go_simp; with_reducible rfl)⟩) hHeld ?_
          simp only [Act.put, List.setIfInBounds_toArray, List.set_cons_zero, List.set_cons_succ]
          refine wpAnyH_take (i := 1) (oi := _) (v := _) (by simp only [List.getElem?_toArray, List.getElem?_cons_succ, List.getElem?_cons_zero]; rfl) (by kernel_rfl) (by kernel_rfl) (by kernel_rfl) (by exact fun _ _ _ h => h) (Or.inl ⟨by rfl, by intro w' hSw; (try dsimp only at hSw); first | (go_simp; done) | (go_simp; with_reducible rfl)⟩) hHeld ?_
          simp only [Act.put, List.setIfInBounds_toArray, List.set_cons_zero, List.set_cons_succ]
          refine wpAnyH_take (i := 2) (oi := _) (v := _) (by simp only [List.getElem?_toArray, List.getElem?_cons_succ, List.getElem?_cons_zero]; rfl) (by kernel_rfl) (by kernel_rfl) (by kernel_rfl) (by exact fun _ _ _ h => h) (Or.inl ⟨by rfl, by intro w' hSw; (try dsimp only at hSw); first | (go_simp; done) | (go_simp; with_reducible rfl)⟩) hHeld ?_
          simp only [Act.put, List.setIfInBounds_toArray, List.set_cons_zero, List.set_cons_succ]
          refine wpAnyH_take (i := 3) (oi := _) (v := _) (by simp only [List.getElem?_toArray, List.getElem?_cons_succ, List.getElem?_cons_zero]; rfl) (by kernel_rfl) (by kernel_rfl) (by kernel_rfl) (by exact fun _ _ _ h => h) (Or.inl ⟨by rfl, by intro w' hSw; (try dsimp only at hSw); first | (go_simp; done) | (go_simp; with_reducible rfl)⟩) hHeld ?_
          simp only [Act.put, List.setIfInBounds_toArray, List.set_cons_zero, List.set_cons_succ]
          refine wpAnyH_take (i := 4) (oi := _) (v := _) (by simp only [List.getElem?_toArray, List.getElem?_cons_succ, List.getElem?_cons_zero]; rfl) (by kernel_rfl) (by kernel_rfl) (by kernel_rfl) (by exact fun _ _ _ h => h) (Or.inl ⟨by rfl, by intro w' hSw; (try dsimp only at hSw); first | (go_simp; done) | (go_simp; with_reducible rfl)⟩) hHeld ?_
          simp only [Act.put, List.setIfInBounds_toArray, List.set_cons_zero, List.set_cons_succ]
          refine wpAnyH_take (i := 5) (oi := _) (v := _) (by simp only [List.getElem?_toArray, List.getElem?_cons_succ, List.getElem?_cons_zero]; rfl) (by kernel_rfl) (by kernel_rfl) (by kernel_rfl) (by exact fun _ _ _ h => h) (Or.inl ⟨by rfl, by intro w' hSw; (try dsimp only at hSw); first | (go_simp; done) | (go_simp; with_reducible rfl)⟩) hHeld ?_
          simp only [Act.put, List.setIfInBounds_toArray, List.set_cons_zero, List.set_cons_succ]
          refine wpAnyH_take (i := 6) (oi := _) (v := _) (by simp only [List.getElem?_toArray, List.getElem?_cons_succ, List.getElem?_cons_zero]; rfl) (by kernel_rfl) (by kernel_rfl) (by kernel_rfl) (by exact fun _ _ _ h => h) (Or.inl ⟨by rfl, by intro w' hSw; (try dsimp only at hSw); first | (go_simp; done) | (go_simp; with_reducible rfl)⟩) hHeld ?_
          simp only [Act.put, List.setIfInBounds_toArray, List.set_cons_zero, List.set_cons_succ]
          refine wpAnyH_take (i := 7) (oi := _) (v := _) (by simp only [List.getElem?_toArray, List.getElem?_cons_succ, List.getElem?_cons_zero]; rfl) (by kernel_rfl) (by kernel_rfl) (by kernel_rfl) (by exact fun _ _ _ h => h) (Or.inl ⟨by rfl, by intro w' hSw; (try dsimp only at hSw); first | (go_simp; done) | (go_simp; with_reducible rfl)⟩) hHeld ?_
          simp only [Act.put, List.setIfInBounds_toArray, List.set_cons_zero, List.set_cons_succ]
          refine wpAnyH_take (i := 8) (oi := _) (v := _) (by simp only [List.getElem?_toArray, List.getElem?_cons_succ, List.getElem?_cons_zero]; rfl) (by kernel_rfl) (by kernel_rfl) (by kernel_rfl) (by exact fun _ _ _ h => h) (Or.inl ⟨by rfl, by intro w' hSw; (try dsimp only at hSw); first | (go_simp; done) | (go_simp; with_reducible rfl)⟩) hHeld ?_
          simp only [Act.put, List.setIfInBounds_toArray, List.set_cons_zero, List.set_cons_succ]
          refine wpAnyH_take (i := 9) (oi := _) (v := _) (by simp only [List.getElem?_toArray, List.getElem?_cons_succ, List.getElem?_cons_zero]; rfl) (by kernel_rfl) (by kernel_rfl) (by kernel_rfl) (by exact fun _ _ _ h => h) (Or.inl ⟨by rfl, by intro w' hSw; (try dsimp only at hSw); first | (go_simp; done) | (go_simp; with_reducible rfl)⟩) hHeld ?_
          simp only [Act.put, List.setIfInBounds_toArray, List.set_cons_zero, List.set_cons_succ]
          refine wpAnyH_take (i := 10) (oi := _) (v := _) (by simp only [List.getElem?_toArray, List.getElem?_cons_succ, List.getElem?_cons_zero]; rfl) (by kernel_rfl) (by kernel_rfl) (by kernel_rfl) (by exact fun _ _ _ h => h) (Or.inl ⟨by rfl, by intro w' hSw; (try dsimp only at hSw); first | (go_simp; done) | (go_simp; with_reducible rfl)⟩) hHeld ?_
          simp only [Act.put, List.setIfInBounds_toArray, List.set_cons_zero, List.set_cons_succ]
          refine wpAnyH_take (i := 11) (oi := _) (v := _) (by simp only [List.getElem?_toArray, List.getElem?_cons_succ, List.getElem?_cons_zero]; rfl) (by kernel_rfl) (by kernel_rfl) (by kernel_rfl) (by exact fun _ _ _ h => h) (Or.inl ⟨by rfl, by intro w' hSw; (try dsimp only at hSw); first | (go_simp; done) | (go_simp; with_reducible rfl)⟩) hHeld ?_
          simp only [Act.put, List.setIfInBounds_toArray, List.set_cons_zero, List.set_cons_succ]
          refine wpAnyH_take (i := 12) (oi := _) (v := _) (by simp only [List.getElem?_toArray, List.getElem?_cons_succ, List.getElem?_cons_zero]; rfl) (by kernel_rfl) (by kernel_rfl) (by kernel_rfl) (by exact fun _ _ _ h => h) (Or.inl ⟨by rfl, by intro w' hSw; (try dsimp only at hSw); first | (go_simp; done) | (go_simp; with_reducible rfl)⟩) hHeld ?_
          simp only [Act.put, List.setIfInBounds_toArray, List.set_cons_zero, List.set_cons_succ]
          refine wpAnyH_take (i := 13) (oi := _) (v := _) (by simp only [List.getElem?_toArray, List.getElem?_cons_succ, List.getElem?_cons_zero]; rfl) (by kernel_rfl) (by kernel_rfl) (by kernel_rfl) (by exact fun _ _ _ h => h) (Or.inl ⟨by rfl, by intro w' hSw; (try dsimp only at hSw); first | (go_simp; done) | (go_simp; with_reducible rfl)⟩) hHeld ?_
          simp only [Act.put, List.setIfInBounds_toArray, List.set_cons_zero, List.set_cons_succ]
          refine wpAnyH_take (i := 14) (oi := _) (v := _) (by simp only [List.getElem?_toArray, List.getElem?_cons_succ, List.getElem?_cons_zero]; rfl) (by kernel_rfl) (by kernel_rfl) (by kernel_rfl) (by exact fun _ _ _ h => h) (Or.inl ⟨by rfl, by intro w' hSw; (try dsimp only at hSw); first | (go_simp; done) | (go_simp; with_reducible rfl)⟩) hHeld ?_
          simp only [Act.put, List.setIfInBounds_toArray, List.set_cons_zero, List.set_cons_succ]
          refine wpAnyH_take (i := 15) (oi := _) (v := _) (by simp only [List.getElem?_toArray, List.getElem?_cons_succ, List.getElem?_cons_zero]; rfl) (by kernel_rfl) (by kernel_rfl) (by kernel_rfl) (by exact fun _ _ _ h => h) (Or.inl ⟨by rfl, by intro w' hSw; (try dsimp only at hSw); first | (go_simp; done) | (go_simp; with_reducible rfl)⟩) hHeld ?_
          simp only [Act.put, List.setIfInBounds_toArray, List.set_cons_zero, List.set_cons_succ]
          refine wpAnyH_take (i := 16) (oi := _) (v := _) (by simp only [List.getElem?_toArray, List.getElem?_cons_succ, List.getElem?_cons_zero]; rfl) (by kernel_rfl) (by kernel_rfl) (by kernel_rfl) (by exact fun _ _ _ h => h) (Or.inl ⟨by rfl, by intro w' hSw; (try dsimp only at hSw); first | (go_simp; done) | (go_simp; with_reducible rfl)⟩) hHeld ?_
          simp only [Act.put, List.setIfInBounds_toArray, List.set_cons_zero, List.set_cons_succ]
          refine wpAnyH_take (i := 17) (oi := _) (v := _) (by simp only [List.getElem?_toArray, List.getElem?_cons_succ, List.getElem?_cons_zero]; rfl) (by kernel_rfl) (by kernel_rfl) (by kernel_rfl) (by exact fun _ _ _ h => h) (Or.inl ⟨by rfl, by intro w' hSw; (try dsimp only at hSw); first | (go_simp; done) | (go_simp; with_reducible rfl)⟩) hHeld ?_
          simp only [Act.put, List.setIfInBounds_toArray, List.set_cons_zero, List.set_cons_succ]
          refine wpAnyH_take (i := 18) (oi := _) (v := _) (by simp only [List.getElem?_toArray, List.getElem?_cons_succ, List.getElem?_cons_zero]; rfl) (by kernel_rfl) (by kernel_rfl) (by kernel_rfl) (by exact fun _ _ _ h => h) (Or.inl ⟨by rfl, by intro w' hSw; (try dsimp only at hSw); first | (go_simp; done) | (go_simp; with_reducible rfl)⟩) hHeld ?_
          simp only [Act.put, List.setIfInBounds_toArray, List.set_cons_zero, List.set_cons_succ]
          refine wpAnyH_take (i := 19) (oi := _) (v := _) (by simp only [List.getElem?_toArray, List.getElem?_cons_succ, List.getElem?_cons_zero]; rfl) (by kernel_rfl) (by kernel_rfl) (by kernel_rfl) (by exact fun _ _ _ h => h) (Or.inl ⟨by rfl, by intro w' hSw; (try dsimp only at hSw); first | (go_simp; done) | (go_simp; with_reducible rfl)⟩) hHeld ?_
          simp only [Act.put, List.setIfInBounds_toArray, List.set_cons_zero, List.set_cons_succ]
          refine wpAnyH_take (i := 20) (oi := _) (v := _) (by simp only [List.getElem?_toArray, List.getElem?_cons_succ, List.getElem?_cons_zero]; rfl) (by kernel_rfl) (by kernel_rfl) (by kernel_rfl) (by exact fun _ _ _ h => h) (Or.inl ⟨by rfl, by intro w' hSw; (try dsimp only at hSw); first | (go_simp; done) | (go_simp; with_reducible rfl)⟩) hHeld ?_
          simp only [Act.put, List.setIfInBounds_toArray, List.set_cons_zero, List.set_cons_succ]
          refine wpAnyH_take (i := 21) (oi := _) (v := _) (by simp only [List.getElem?_toArray, List.getElem?_cons_succ, List.getElem?_cons_zero]; rfl) (by kernel_rfl) (by kernel_rfl) (by kernel_rfl) (by exact fun _ _ _ h => h) (Or.inl ⟨by rfl, by intro w' hSw; (try dsimp only at hSw); first | (go_simp; done) | (go_simp; with_reducible rfl)⟩) hHeld ?_
          simp only [Act.put, List.setIfInBounds_toArray, List.set_cons_zero, List.set_cons_succ]
          refine wpAnyH_done (by kernel_rfl) ?_ _
          clear HS hHeld hsub
          have HOy : Hid (OutR w1 WZ.drew yb (ver + 1) (.slice (some ⟨g, 0, none⟩) (k + 1) cap2) l) := ⟨HO.out.y, World.ownsRow.drew HO.out.row, HO.out.below.drew, HO.out.yge, HO.out.ne⟩
          have HEy : Hid (WZ.drew.heap[w.heap.size + 1]? = some (.cells #[.int .i64 p, .int .i64 q] 39 (0, 0))) := HE.out
          have HYy : Hid (WZ.drew.heap[w.heap.size + 1 + 1]? = some (.cells #[.int .i64 0, .slice none 0 0] 29 (0, 0))) := HY.out
          have HBy : Hid (Below w.heap.size w WZ.drew) := HBZ.out.drew
          have HWy : Hid (WZ.drew.ownsRow w1.heap.size 39 2 (.slice (some ⟨g, 0, none⟩) (k + 1) cap2) (k + 1) (ecells l)) := World.ownsRow.drew HOWN.out
          clear HO HE HY HBZ HOWN zz0 zz1 zf0 zf1 ee0 ee1
          generalize WZ.drew = WY at *
          obtain ⟨zz0, zz1, zf0, zf1⟩ := agg2 HOy.out.y
          obtain ⟨ee0, ee1, _, _⟩ := agg2 HEy.out
          have r0' := (HOy.out.row.ext k hbk).1
          have r1' := (HOy.out.row.ext k hbk).2
          rw [hgk] at r0' r1'
          dsimp only at r0' r1'
          clear r0 r1
          cases hj : (op + ol == p)
          · have HA : Hid (appF l ⟨p, q⟩ = l ++ [⟨p, q⟩]) := by show _ = _; rw [hl0]; exact appF_new _ _ _ (by simpa using hj)
            by_cases h36 : k + 1 < 36
            · have HG : Hid (growE l ⟨p, q⟩ = 0) := by show _ = _; unfold growE; rw [hm, if_pos rfl, if_pos (.inr (by rw [hln]; omega))]
              have h36' : ((k : Int) + 1 == 36) = false := by rw [beq_eq_false_iff_ne]; omega
              go_wp2_with (
                at_builtin
                refine wpList_append_near _ rfl _ _ 27 rfl w1.heap.size 39 i0 _ 2 16 Tryd.underlying27 hi hz0 hz1 hz2 rfl (by decide) (.slice (some ⟨g, 0, none⟩) (k + 1) cap2) (k + 1) (ecells l) rfl (World.ownsRow.alloc HWy.out _) ⟨WY.heap.size, 0, none⟩ 1 1 [.int .i64 p, .int .i64 q] rfl rfl (cells_new2 _ _ _ _) (by intro u hu; simp only [List.mem_cons, List.not_mem_nil, or_false] at hu; rcases hu with rfl | rfl <;> rfl) (by unfold maxLen; omega) (by omega) (by have := HOy.out.below.size; simp; omega) ?_
                intro v5 w5 hown5 hgrow hnear
                obtain ⟨a5, cap5, hv5, hm5⟩ := row_slice hown5
                subst hv5
                have HBK : Hid (∀ j, j < WY.heap.size → (∀ i, (Value.slice (some ⟨g, 0, none⟩) (k + 1) cap2).ownBlock = some i → j ≠ i) → w5.heap[j]? = WY.heap[j]?) := fun j hk hne => (hgrow.block j (by simp; omega) (fun e => hne j e.symm rfl)).trans (Below.heap_alloc _ _ _ hk)
                have HZ5 : w5.heap[yb]? = some (.cells #[.int .i64 (ver + 1), .slice (some ⟨g, 0, none⟩) (k + 1) cap2] 29 (0, 0)) := (HBK.out _ (lt_of_heap HOy.out.y) (fun g e => by have := HOy.out.ne g e; omega)).trans HOy.out.y
                have HY5 : w5.heap[w.heap.size + 1 + 1]? = some (.cells #[.int .i64 0, .slice none 0 0] 29 (0, 0)) := (HBK.out _ (lt_of_heap HYy.out) (fun g e => by have := row_ge HOy.out.row g e; omega)).trans HYy.out
                have HR5 : Hid (RowR w5 w1.heap.size (.slice a5 (k + 1 + 1) cap5) (l ++ [⟨p, q⟩])) := by
                  show World.ownsRow _ _ _ _ _ _ _
                  rw [ecells_append, List.length_append, hln]
                  exact hown5
                have HB5 : Hid (Below w.heap.size w w5) := (HBy.out.alloc HBy.out.size _).grown hgrow (by have := HBy.out.size; simp; omega) (fun k e => by have := row_ge HOy.out.row k e; omega)
                have HN5 : Hid (∀ g, (Value.slice a5 (k + 1 + 1) cap5).ownBlock = some g → g ≠ yb ∧ g ≠ w.heap.size + 1 + 1) := by
                  intro g e
                  have := row_ge HR5.out g e
                  refine ⟨?_, by omega⟩
                  rcases hnear with h | ⟨j, h, hj⟩
                  · rw [h] at e; exact HOy.out.ne g e
                  · rw [h] at e; cases e
                    have := lt_of_heap HOy.out.y
                    simp at hj; omega
                have HY6 : (w5.setCell ⟨yb, 1, none⟩ (.slice a5 (k + 1 + 1) cap5)).heap[w.heap.size + 1 + 1]? = some (.cells #[.int .i64 0, .slice none 0 0] 29 (0, 0)) := (heap_setCell_other _ ⟨yb, 1, none⟩ _ _ (by show w.heap.size + 1 + 1 ≠ yb; omega)).trans HY5
                have HY6' : Hid (_ = _) := HY6
                obtain ⟨g0, g1, g2, g3⟩ := agg2 HZ5
                obtain ⟨u0, u1, u2, u3⟩ := agg2 HY6
                clear r0' r1' hgrow hnear hown5 HBK HZ5 HY5 HY6 hm5 zz0 zz1 zf0 zf1 ee0 ee1)
              refine bodyPost_ret (res_growR _ (w.heap.size + 1 + 1) _ (ver + 1) a5 (k + 1 + 1) cap5 _ rfl rfl (set2_heap HY6'.out _ _)) rfl ?_
              refine ⟨⟨ver + 1, .slice a5 (k + 1 + 1) cap5, by rw [HG.out]; rfl, fun _ => ⟨rfl, ?_⟩, fun h => absurd HG.out h⟩, set2_below (HB5.out.setCell (p := ⟨yb, 1, none⟩) (by show w.heap.size ≤ yb; omega) _) _ (by omega) _ _⟩
              rw [HA.out]
              refine row_base (row_keep HR5.out (fun g e => (set2_other (HN5.out g e).2 _ _).trans (heap_setCell_other _ ⟨yb, 1, none⟩ _ _ (HN5.out g e).1))) (by omega)
            · have HG : Hid (growE l ⟨p, q⟩ = 19) := by show _ = _; unfold growE; rw [hm, if_pos rfl, if_neg]; rw [hl0, joinsF_last, ← hl0, hln]; dsimp only; rw [hj]; simp; omega
              have h36' : ((k : Int) + 1 == 36) = true := by rw [beq_iff_eq]; omega
              obtain ⟨u0, u1, u2, u3⟩ := agg2 HYy.out
              go_wp2
              refine bodyPost_ret (res_growR _ (w.heap.size + 1 + 1) _ 0 none 0 0 _ rfl rfl (set2_heap HYy.out _ _)) rfl ?_
              refine ⟨⟨0, .slice none 0 0, ?_, fun h => ?_, fun _ => ⟨rfl, rfl⟩⟩, set2_below HBy.out _ (by omega) _ _⟩
              · rw [HG.out]; rfl
              · rw [HG.out] at h; cases h
          · have HA : Hid (appF l ⟨p, q⟩ = b ++ [⟨op, ol + q⟩]) := by show _ = _; rw [hl0]; exact appF_join _ _ _ (by simpa using hj)
            have HG : Hid (growE l ⟨p, q⟩ = 0) := by show _ = _; unfold growE; rw [hm, if_pos rfl, if_pos (.inl (by rw [hl0, joinsF_last]; exact hj))]
            have hpq : Ok ⟨p, q⟩ := (belowF_ok _).1 (by unfold mayF at hm; simp only [Bool.and_eq_true] at hm; exact hm.1)
            unfold Ok at hpq
            dsimp only at hpq
            have rf : WY.frozen? ⟨g, k * 2 + 1, none⟩ = false := World.ownsRow.frozenAt (n := k + 1) HWy.out _
            have HL0 : Hid (l = b ++ [⟨op, ol⟩]) := hl0
            clear hl0 hgk
            go_wp2_with fail
            go_region
            obtain ⟨w5, hw5⟩ : ∃ w5, w5 = (WY.setCell ⟨g, k * 2 + 1, none⟩ (.int .i64 (ol + q))).drew := ⟨_, rfl⟩
            rw [← hw5]
            have hg1 : g ≠ yb := HOy.out.ne g rfl
            have hg2 : g ≠ w.heap.size + 1 + 1 := by have := row_ge HOy.out.row g rfl; omega
            have HZ5 : w5.heap[yb]? = some (.cells #[.int .i64 (ver + 1), .slice (some ⟨g, 0, none⟩) (k + 1) cap2] 29 (0, 0)) := by rw [hw5]; exact (heap_setCell_other _ ⟨g, k * 2 + 1, none⟩ _ _ (by show yb ≠ g; omega)).trans HOy.out.y
            have HY5 : w5.heap[w.heap.size + 1 + 1]? = some (.cells #[.int .i64 0, .slice none 0 0] 29 (0, 0)) := by rw [hw5]; exact (heap_setCell_other _ ⟨g, k * 2 + 1, none⟩ _ _ (by show w.heap.size + 1 + 1 ≠ g; omega)).trans HYy.out
            have HY5' : Hid (_ = _) := HY5
            have HR5 : Hid (RowR w5 w1.heap.size (.slice (some ⟨g, 0, none⟩) (k + 1) cap2) (b ++ [⟨op, ol + q⟩])) := by
              have h5 := World.ownsRow.drew (World.ownsRow.stored HWy.out (k * 2 + 1) (.int .i64 (ol + q))).1
              rw [hw5]
              show World.ownsRow _ _ _ _ _ _ _
              have hkb : k = b.length := by have := hln; rw [HL0.out] at this; simp at this; omega
              rw [show (b ++ [(⟨op, ol + q⟩ : Ext)]).length = k + 1 by simp; omega, ← ecells_set_len b ⟨op, ol⟩ (ol + q), ← hkb, ← HL0.out]
              exact h5
            have HB5 : Hid (Below w.heap.size w w5) := by
              rw [hw5]
              exact (HBy.out.setCell (p := ⟨g, k * 2 + 1, none⟩) (by show w.heap.size ≤ g; have := row_ge HOy.out.row g rfl; omega) _).drew
            obtain ⟨g0, g1, g2, g3⟩ := agg2 HZ5
            obtain ⟨u0, u1, u2, u3⟩ := agg2 HY5
            clear hw5 HZ5 HY5 rf r0' r1' zz0 zz1 zf0 zf1 ee0 ee1
            go_wp2
            refine bodyPost_ret (res_growR _ (w.heap.size + 1 + 1) _ (ver + 1) (some ⟨g, 0, none⟩) (k + 1) cap2 _ rfl rfl (set2_heap HY5'.out _ _)) rfl ?_
            refine ⟨⟨ver + 1, .slice (some ⟨g, 0, none⟩) (k + 1) cap2, by rw [HG.out]; rfl, fun _ => ⟨rfl, ?_⟩, fun h => absurd HG.out h⟩, set2_below HB5.out _ (by omega) _ _⟩
            rw [HA.out]
            exact row_base (row_keep HR5.out (fun g' e => set2_other (by cases e; exact hg2) _ _)) (by omega)
    · skip
      go_simp
      go_wp2_with fail
      obtain ⟨WE, hWE⟩ : ∃ W, W = (w1.alloc (Obj.cells #[.int .i64 0, .slice none 0 0] 29)).drew := ⟨_, rfl⟩
      have hbE : Below w1.heap.size w1 WE := by rw [hWE]; exact ((Below.refl _ _).alloc (Nat.le_refl _) _).drew
      rw [← hWE]
      refine hK.out _ _ ⟨(hbE.cell (p := ⟨w.heap.size, 0, none⟩) (lt_of_cell x0)).trans x0, (hbE.cell (p := ⟨w.heap.size, 1, none⟩) (lt_of_cell x1)).trans x1⟩ (fun hHeld => ?_)
      clear hK K
      have hyz1 : WE.heap[w1.heap.size]? = some (.cells #[.int .i64 0, .slice none 0 0] 29 (0, 0)) := by rw [hWE]; exact heap_alloc_new _ _
      have hsE : WE.heap.size = w1.heap.size + 1 := by rw [hWE]; simp
      clear hWE
      refine wpAnyH_ready (rs := [3]) (by kernel_rfl) (by simp) ?_
      refine AllReadyH.cons rfl (fun K hK => ?_) AllReadyH.nil
      go_simp
      go_wp2_with fail
      obtain ⟨WF, hWF⟩ : ∃ W, W = (WE).alloc (Obj.cells #[] 39) := ⟨_, rfl⟩
      have hbF : Below w1.heap.size w1 WF := by rw [hWF]; exact hbE.alloc hbE.size _
      rw [← hWF]
      refine hK.out _ _ ⟨(hbF.cell (p := ⟨w.heap.size, 0, none⟩) (lt_of_cell x0)).trans x0, (hbF.cell (p := ⟨w.heap.size, 1, none⟩) (lt_of_cell x1)).trans x1⟩ (fun hHeld => ?_)
      clear hK K
      have hyz0 : WF.heap[w1.heap.size]? = some (.cells #[.int .i64 0, .slice none 0 0] 29 (0, 0)) := by rw [hWF]; exact (Below.heap_alloc _ _ _ (lt_of_heap hyz1)).trans hyz1
      have hlF : WF.heap[w1.heap.size + 1]? = some (.cells #[] 39 (0, 0)) := by rw [hWF, ← hsE]; exact heap_alloc_new _ _
      clear hWF
      refine wpAnyH_ready (rs := [6]) (by kernel_rfl) (by simp) ?_
      refine AllReadyH.cons (o := _) (by simp only [List.getElem?_toArray, List.getElem?_cons_succ, List.getElem?_cons_zero]; rfl) (fun K hK => ?_) AllReadyH.nil
      obtain ⟨v2, WG, hrun, hrow, hg, hnr⟩ := copyR_run (W := WF) (B := B) (gb := (w1.heap.size + 1)) (B0 := w1.heap.size) (.slice a n cap) l (row_below (row_below HR.out HB1.out (Nat.le_refl _)) hbF (Nat.le_refl _)) (by omega) hlF (by omega) 27
      refine wpH_app (by rfl) rfl rfl rfl hrun ?_
      obtain ⟨a2, cap2, hv2, _⟩ := row_slice hrow
      rw [hln] at hv2
      subst hv2
      have hbG : Below w1.heap.size w1 WG := hbF.grown hg hbF.size (fun k e => by cases e; first | omega | exact Nat.le_refl _)
      refine hK.out _ _ ⟨(hbG.cell (p := ⟨w.heap.size, 0, none⟩) (lt_of_cell x0)).trans x0, (hbG.cell (p := ⟨w.heap.size, 1, none⟩) (lt_of_cell x1)).trans x1⟩ (fun hHeld => ?_)
      clear hK K
      simp only [Act.put, List.setIfInBounds_toArray, List.set_cons_zero, List.set_cons_succ]
      have hyz : WG.heap[w1.heap.size]? = some (.cells #[.int .i64 0, .slice none 0 0] 29 (0, 0)) := (hg.block _ (lt_of_heap hyz0) (fun e => by have := Option.some.inj e; omega)).trans hyz0
      have hne : ∀ i, (Value.slice a2 n cap2).ownBlock = some i → i ≠ w1.heap.size := by
        intro i e
        have hlt := lt_of_heap hyz0
        rcases hnr with h | ⟨j, h, hj⟩
        · rw [h] at e; have e2 := Option.some.inj e; dsimp only at e2; omega
        · rw [h] at e; have e2 := Option.some.inj e; omega
      refine wpAnyH_take (i := 7) (oi := _) (v := _) (by simp only [List.getElem?_toArray, List.getElem?_cons_succ, List.getElem?_cons_zero]; rfl) (by kernel_rfl) (by kernel_rfl) (by kernel_rfl) (by exact fun _ _ _ h => h) (Or.inl ⟨by rfl, by intro w' hSw; (try dsimp only at hSw); first | (go_simp; done) | (go_simp; with_reducible rfl)⟩) hHeld ?_
      simp only [Act.put, List.setIfInBounds_toArray, List.set_cons_zero, List.set_cons_succ]
      refine wpAnyH_ready (rs := [9]) (by kernel_rfl) (by simp) ?_
      refine AllReadyH.cons rfl (fun K hK => ?_) AllReadyH.nil
      obtain ⟨y0, y1, f0, f1⟩ := agg2 hyz
      simp only [HWR.out]
      go_simp
      go_wp2_with fail
      refine hK.out _ _ (by have hq : Below w1.heap.size w1 (((WG).setCell ⟨w1.heap.size, 0, none⟩ (.int .i64 (ver + 1))).setCell ⟨w1.heap.size, 1, none⟩ (.slice a2 n cap2)) := set2_below hbG _ (by first | omega | exact Nat.le_refl _) _ _; exact ⟨(hq.cell (p := ⟨w.heap.size, 0, none⟩) (lt_of_cell x0)).trans x0, (hq.cell (p := ⟨w.heap.size, 1, none⟩) (lt_of_cell x1)).trans x1⟩) (fun hHeld => ?_)
      clear hK K y0 y1 f0 f1
      refine wpAnyH_done (by kernel_rfl) ?_ _
      have hdone : OutR w1 ((WG.setCell ⟨w1.heap.size, 0, none⟩ (.int .i64 (ver + 1))).setCell ⟨w1.heap.size, 1, none⟩ (.slice a2 n cap2)) (w1.heap.size) (ver + 1) (.slice a2 n cap2) l := ⟨set2_heap hyz _ _, row_keep hrow (fun g e => set2_other (hne g e) _ _), set2_below hbG _ (Nat.le_refl _) _ _, Nat.le_refl _, hne⟩
      obtain ⟨WZ, hWZ⟩ : ∃ W, W = (WG.setCell ⟨w1.heap.size, 0, none⟩ (.int .i64 (ver + 1))).setCell ⟨w1.heap.size, 1, none⟩ (.slice a2 n cap2) := ⟨_, rfl⟩
      obtain ⟨yb, hyb⟩ : ∃ k, k = w1.heap.size := ⟨_, rfl⟩
      rw [← hWZ, ← hyb] at hdone
      rw [← hWZ]
      try rw [← hyb]
      have HO : Hid (OutR w1 WZ yb (ver + 1) (.slice a2 n cap2) l) := hdone
      clear hdone hWZ hyb
      try clear hg hnr
      try clear hyz hyz0 hne
      have HE : Hid (WZ.heap[w.heap.size + 1]? = some (.cells #[.int .i64 p, .int .i64 q] 39 (0, 0))) := (HO.out.below.block _ (lt_of_heap HE1.out)).trans HE1.out
      have HY : Hid (WZ.heap[w.heap.size + 1 + 1]? = some (.cells #[.int .i64 0, .slice none 0 0] 29 (0, 0))) := (HO.out.below.block _ (lt_of_heap HY1.out)).trans HY1.out
      have HBZ : Hid (Below w.heap.size w WZ) := HB1.out.trans (HO.out.below.mono HB1.out.size)
      have hw1l := lt_of_heap HY1.out
      have hyg := HO.out.yge
      obtain ⟨i0, hi, hz0, hz1, hz2⟩ := info_parts info_extR'
      obtain ⟨zz0, zz1, zf0, zf1⟩ := agg2 HO.out.y
      obtain ⟨ee0, ee1, _, _⟩ := agg2 HE.out
      have HOWN : Hid (WZ.ownsRow w1.heap.size 39 2 (.slice a2 n cap2) n (ecells l)) := by have h := HO.out.row; unfold RowR at h; rw [hln] at h; exact h
      rcases last_cases l with hl0 | ⟨b, o, hl0⟩
      · have HA : Hid (appF l ⟨p, q⟩ = l ++ [⟨p, q⟩]) := by show _ = _; rw [hl0]; rfl
        have HG : Hid (growE l ⟨p, q⟩ = 0) := by show _ = _; unfold growE; rw [hm, hl0]; rfl
        have hn0 : decide ((0 : Int) < (n : Int)) = false := by rw [← hln, hl0]; rfl
        have hn0' : decide (0 < n) = false := by rw [← hln, hl0]; rfl
        have hn0'' : ¬ 0 < n := by rw [← hln, hl0]; decide
        have hn36 : ((n : Int) == 36) = false := by rw [← hln, hl0]; rfl
        go_wp2_with fail
        refine wp_region_held_drew (S := fun _ => True) (by kernel_rfl) (by exact True.intro) (fun hHeld => ?_)
        change wpAnyH _ _ _ _ _ 22 (Array.replicate 22 false) _ _
        refine wpAnyH_take (i := 0) (oi := _) (v := _) (by simp only [List.getElem?_toArray, List.getElem?_cons_zero]; rfl) (by kernel_rfl) (by kernel_rfl) (by kernel_rfl) (by exact fun _ _ _ h => h) (Or.inl ⟨by rfl, by intro w' hSw; (try dsimp only at hSw); first | (go_simp; done) | (go_simp; with_reducible rfl)⟩) hHeld ?_
        simp only [Act.put, List.setIfInBounds_toArray, List.set_cons_zero, List.set_cons_succ]
        refine wpAnyH_take (i := 1) (oi := _) (v := _) (by simp only [List.getElem?_toArray, List.getElem?_cons_succ, List.getElem?_cons_zero]; rfl) (by kernel_rfl) (by kernel_rfl) (by kernel_rfl) (by exact fun _ _ _ h => h) (Or.inl ⟨by rfl, by intro w' hSw; (try dsimp only at hSw); first | (go_simp; done) | (go_simp; with_reducible rfl)⟩) hHeld ?_
        simp only [Act.put, List.setIfInBounds_toArray, List.set_cons_zero, List.set_cons_succ]
        refine wpAnyH_take (i := 2) (oi := _) (v := _) (by simp only [List.getElem?_toArray, List.getElem?_cons_succ, List.getElem?_cons_zero]; rfl) (by kernel_rfl) (by kernel_rfl) (by kernel_rfl) (by exact fun _ _ _ h => h) (Or.inl ⟨by rfl, by intro w' hSw; (try dsimp only at hSw); first | (go_simp; done) | (go_simp; with_reducible rfl)⟩) hHeld ?_
        simp only [Act.put, List.setIfInBounds_toArray, List.set_cons_zero, List.set_cons_succ]
        refine wpAnyH_take (i := 3) (oi := _) (v := undef) (by simp only [List.getElem?_toArray, List.getElem?_cons_succ, List.getElem?_cons_zero]; rfl) (by kernel_rfl) (by kernel_rfl) (by kernel_rfl) (by exact fun _ _ _ h => h) (Or.inr ⟨by rfl, rfl⟩) hHeld ?_
        simp only [Act.put, List.setIfInBounds_toArray, List.set_cons_zero, List.set_cons_succ]
        refine wpAnyH_take (i := 4) (oi := _) (v := undef) (by simp only [List.getElem?_toArray, List.getElem?_cons_succ, List.getElem?_cons_zero]; rfl) (by kernel_rfl) (by kernel_rfl) (by kernel_rfl) (by exact fun _ _ _ h => h) (Or.inr ⟨by rfl, rfl⟩) hHeld ?_
        simp only [Act.put, List.setIfInBounds_toArray, List.set_cons_zero, List.set_cons_succ]
        refine wpAnyH_take (i := 5) (oi := _) (v := undef) (by simp only [List.getElem?_toArray, List.getElem?_cons_succ, List.getElem?_cons_zero]; rfl) (by kernel_rfl) (by kernel_rfl) (by kernel_rfl) (by exact fun _ _ _ h => h) (Or.inr ⟨by rfl, rfl⟩) hHeld ?_
        simp only [Act.put, List.setIfInBounds_toArray, List.set_cons_zero, List.set_cons_succ]
        refine wpAnyH_take (i := 6) (oi := _) (v := undef) (by simp only [List.getElem?_toArray, List.getElem?_cons_succ, List.getElem?_cons_zero]; rfl) (by kernel_rfl) (by kernel_rfl) (by kernel_rfl) (by exact fun _ _ _ h => h) (Or.inr ⟨by rfl, rfl⟩) hHeld ?_
        simp only [Act.put, List.setIfInBounds_toArray, List.set_cons_zero, List.set_cons_succ]
        refine wpAnyH_take (i := 7) (oi := _) (v := undef) (by simp only [List.getElem?_toArray, List.getElem?_cons_succ, List.getElem?_cons_zero]; rfl) (by kernel_rfl) (by kernel_rfl) (by kernel_rfl) (by exact fun _ _ _ h => h) (Or.inr ⟨by rfl, rfl⟩) hHeld ?_
        simp only [Act.put, List.setIfInBounds_toArray, List.set_cons_zero, List.set_cons_succ]
        refine wpAnyH_take (i := 8) (oi := _) (v := undef) (by simp only [List.getElem?_toArray, List.getElem?_cons_succ, List.getElem?_cons_zero]; rfl) (by kernel_rfl) (by kernel_rfl) (by kernel_rfl) (by exact fun _ _ _ h => h) (Or.inr ⟨by rfl, rfl⟩) hHeld ?_
        simp only [Act.put, List.setIfInBounds_toArray, List.set_cons_zero, List.set_cons_succ]
        refine wpAnyH_take (i := 9) (oi := _) (v := undef) (by simp only [List.getElem?_toArray, List.getElem?_cons_succ, List.getElem?_cons_zero]; rfl) (by kernel_rfl) (by kernel_rfl) (by kernel_rfl) (by exact fun _ _ _ h => h) (Or.inr ⟨by rfl, rfl⟩) hHeld ?_
        simp only [Act.put, List.setIfInBounds_toArray, List.set_cons_zero, List.set_cons_succ]
        refine wpAnyH_take (i := 10) (oi := _) (v := undef) (by simp only [List.getElem?_toArray, List.getElem?_cons_succ, List.getElem?_cons_zero]; rfl) (by kernel_rfl) (by kernel_rfl) (by kernel_rfl) (by exact fun _ _ _ h => h) (Or.inr ⟨by rfl, rfl⟩) hHeld ?_
        simp only [Act.put, List.setIfInBounds_toArray, List.set_cons_zero, List.set_cons_succ]
        refine wpAnyH_take (i := 11) (oi := _) (v := undef) (by simp only [List.getElem?_toArray, List.getElem?_cons_succ, List.getElem?_cons_zero]; rfl) (by kernel_rfl) (by kernel_rfl) (by kernel_rfl) (by exact fun _ _ _ h => h) (Or.inr ⟨by rfl, rfl⟩) hHeld ?_
        simp only [Act.put, List.setIfInBounds_toArray, List.set_cons_zero, List.set_cons_succ]
        refine wpAnyH_take (i := 12) (oi := _) (v := undef) (by simp only [List.getElem?_toArray, List.getElem?_cons_succ, List.getElem?_cons_zero]; rfl) (by kernel_rfl) (by kernel_rfl) (by kernel_rfl) (by exact fun _ _ _ h => h) (Or.inr ⟨by rfl, rfl⟩) hHeld ?_
        simp only [Act.put, List.setIfInBounds_toArray, List.set_cons_zero, List.set_cons_succ]
        refine wpAnyH_take (i := 13) (oi := _) (v := undef) (by simp only [List.getElem?_toArray, List.getElem?_cons_succ, List.getElem?_cons_zero]; rfl) (by kernel_rfl) (by kernel_rfl) (by kernel_rfl) (by exact fun _ _ _ h => h) (Or.inr ⟨by rfl, rfl⟩) hHeld ?_
        simp only [Act.put, List.setIfInBounds_toArray, List.set_cons_zero, List.set_cons_succ]
        refine wpAnyH_take (i := 14) (oi := _) (v := undef) (by simp only [List.getElem?_toArray, List.getElem?_cons_succ, List.getElem?_cons_zero]; rfl) (by kernel_rfl) (by kernel_rfl) (by kernel_rfl) (by exact fun _ _ _ h => h) (Or.inr ⟨by rfl, rfl⟩) hHeld ?_
        simp only [Act.put, List.setIfInBounds_toArray, List.set_cons_zero, List.set_cons_succ]
        refine wpAnyH_take (i := 15) (oi := _) (v := undef) (by simp only [List.getElem?_toArray, List.getElem?_cons_succ, List.getElem?_cons_zero]; rfl) (by kernel_rfl) (by kernel_rfl) (by kernel_rfl) (by exact fun _ _ _ h => h) (Or.inr ⟨by rfl, rfl⟩) hHeld ?_
        simp only [Act.put, List.setIfInBounds_toArray, List.set_cons_zero, List.set_cons_succ]
        refine wpAnyH_take (i := 16) (oi := _) (v := undef) (by simp only [List.getElem?_toArray, List.getElem?_cons_succ, List.getElem?_cons_zero]; rfl) (by kernel_rfl) (by kernel_rfl) (by kernel_rfl) (by exact fun _ _ _ h => h) (Or.inr ⟨by rfl, rfl⟩) hHeld ?_
        simp only [Act.put, List.setIfInBounds_toArray, List.set_cons_zero, List.set_cons_succ]
        refine wpAnyH_take (i := 17) (oi := _) (v := undef) (by simp only [List.getElem?_toArray, List.getElem?_cons_succ, List.getElem?_cons_zero]; rfl) (by kernel_rfl) (by kernel_rfl) (by kernel_rfl) (by exact fun _ _ _ h => h) (Or.inr ⟨by rfl, rfl⟩) hHeld ?_
        simp only [Act.put, List.setIfInBounds_toArray, List.set_cons_zero, List.set_cons_succ]
        refine wpAnyH_take (i := 18) (oi := _) (v := undef) (by simp only [List.getElem?_toArray, List.getElem?_cons_succ, List.getElem?_cons_zero]; rfl) (by kernel_rfl) (by kernel_rfl) (by kernel_rfl) (by exact fun _ _ _ h => h) (Or.inr ⟨by rfl, rfl⟩) hHeld ?_
        simp only [Act.put, List.setIfInBounds_toArray, List.set_cons_zero, List.set_cons_succ]
        refine wpAnyH_take (i := 19) (oi := _) (v := undef) (by simp only [List.getElem?_toArray, List.getElem?_cons_succ, List.getElem?_cons_zero]; rfl) (by kernel_rfl) (by kernel_rfl) (by kernel_rfl) (by exact fun _ _ _ h => h) (Or.inr ⟨by rfl, rfl⟩) hHeld ?_
        simp only [Act.put, List.setIfInBounds_toArray, List.set_cons_zero, List.set_cons_succ]
        refine wpAnyH_take (i := 20) (oi := _) (v := undef) (by simp only [List.getElem?_toArray, List.getElem?_cons_succ, List.getElem?_cons_zero]; rfl) (by kernel_rfl) (by kernel_rfl) (by kernel_rfl) (by exact fun _ _ _ h => h) (Or.inr ⟨by rfl, rfl⟩) hHeld ?_
        simp only [Act.put, List.setIfInBounds_toArray, List.set_cons_zero, List.set_cons_succ]
        refine wpAnyH_take (i := 21) (oi := _) (v := _) (by simp only [List.getElem?_toArray, List.getElem?_cons_succ, List.getElem?_cons_zero]; rfl) (by kernel_rfl) (by kernel_rfl) (by kernel_rfl) (by exact fun _ _ _ h => h) (Or.inl ⟨by rfl, by intro w' hSw; (try dsimp only at hSw); first | (go_simp; done) | (go_simp; with_reducible rfl)⟩) hHeld ?_
        simp only [Act.put, List.setIfInBounds_toArray, List.set_cons_zero, List.set_cons_succ]
        refine wpAnyH_done (by kernel_rfl) ?_ _
        have HOy : Hid (OutR w1 WZ.drew yb (ver + 1) (.slice a2 n cap2) l) := ⟨HO.out.y, World.ownsRow.drew HO.out.row, HO.out.below.drew, HO.out.yge, HO.out.ne⟩
        have HEy : Hid (WZ.drew.heap[w.heap.size + 1]? = some (.cells #[.int .i64 p, .int .i64 q] 39 (0, 0))) := HE.out
        have HYy : Hid (WZ.drew.heap[w.heap.size + 1 + 1]? = some (.cells #[.int .i64 0, .slice none 0 0] 29 (0, 0))) := HY.out
        have HBy : Hid (Below w.heap.size w WZ.drew) := HBZ.out.drew
        have HWy : Hid (WZ.drew.ownsRow w1.heap.size 39 2 (.slice a2 n cap2) n (ecells l)) := World.ownsRow.drew HOWN.out
        clear HO HE HY HBZ HOWN zz0 zz1 zf0 zf1 ee0 ee1
        generalize WZ.drew = WY at *
        obtain ⟨zz0, zz1, zf0, zf1⟩ := agg2 HOy.out.y
        obtain ⟨ee0, ee1, _, _⟩ := agg2 HEy.out
        go_wp2_with (
          at_builtin
          refine wpList_append_near _ rfl _ _ 27 rfl w1.heap.size 39 i0 _ 2 16 Tryd.underlying27 hi hz0 hz1 hz2 rfl (by decide) (.slice a2 n cap2) n (ecells l) rfl (World.ownsRow.alloc HWy.out _) ⟨WY.heap.size, 0, none⟩ 1 1 [.int .i64 p, .int .i64 q] rfl rfl (cells_new2 _ _ _ _) (by intro u hu; simp only [List.mem_cons, List.not_mem_nil, or_false] at hu; rcases hu with rfl | rfl <;> rfl) (by unfold maxLen; omega) (by omega) (by have := HOy.out.below.size; simp; omega) ?_
          intro v5 w5 hown5 hgrow hnear
          obtain ⟨a5, cap5, hv5, hm5⟩ := row_slice hown5
          subst hv5
          have HBK : Hid (∀ j, j < WY.heap.size → (∀ i, (Value.slice a2 (n) cap2).ownBlock = some i → j ≠ i) → w5.heap[j]? = WY.heap[j]?) := fun j hk hne => (hgrow.block j (by simp; omega) (fun e => hne j e.symm rfl)).trans (Below.heap_alloc _ _ _ hk)
          have HZ5 : w5.heap[yb]? = some (.cells #[.int .i64 (ver + 1), .slice a2 (n) cap2] 29 (0, 0)) := (HBK.out _ (lt_of_heap HOy.out.y) (fun g e => by have := HOy.out.ne g e; omega)).trans HOy.out.y
          have HY5 : w5.heap[w.heap.size + 1 + 1]? = some (.cells #[.int .i64 0, .slice none 0 0] 29 (0, 0)) := (HBK.out _ (lt_of_heap HYy.out) (fun g e => by have := row_ge HOy.out.row g e; omega)).trans HYy.out
          have HR5 : Hid (RowR w5 w1.heap.size (.slice a5 (n + 1) cap5) (l ++ [⟨p, q⟩])) := by
            show World.ownsRow _ _ _ _ _ _ _
            rw [ecells_append, List.length_append, hln]
            exact hown5
          have HB5 : Hid (Below w.heap.size w w5) := (HBy.out.alloc HBy.out.size _).grown hgrow (by have := HBy.out.size; simp; omega) (fun k e => by have := row_ge HOy.out.row k e; omega)
          have HN5 : Hid (∀ g, (Value.slice a5 (n + 1) cap5).ownBlock = some g → g ≠ yb ∧ g ≠ w.heap.size + 1 + 1) := by
            intro g e
            have := row_ge HR5.out g e
            refine ⟨?_, by omega⟩
            rcases hnear with h | ⟨j, h, hj⟩
            · rw [h] at e; exact HOy.out.ne g e
            · rw [h] at e; cases e
              have := lt_of_heap HOy.out.y
              simp at hj; omega
          have HY6 : (w5.setCell ⟨yb, 1, none⟩ (.slice a5 (n + 1) cap5)).heap[w.heap.size + 1 + 1]? = some (.cells #[.int .i64 0, .slice none 0 0] 29 (0, 0)) := (heap_setCell_other _ ⟨yb, 1, none⟩ _ _ (by show w.heap.size + 1 + 1 ≠ yb; omega)).trans HY5
          have HY6' : Hid (_ = _) := HY6
          obtain ⟨g0, g1, g2, g3⟩ := agg2 HZ5
          obtain ⟨u0, u1, u2, u3⟩ := agg2 HY6
          clear hgrow hnear hown5 HBK HZ5 HY5 HY6 hm5 zz0 zz1 zf0 zf1 ee0 ee1)
        refine bodyPost_ret (res_growR _ (w.heap.size + 1 + 1) _ (ver + 1) a5 (n + 1) cap5 _ rfl rfl (set2_heap HY6'.out _ _)) rfl ?_
        refine ⟨⟨ver + 1, .slice a5 (n + 1) cap5, by rw [HG.out]; rfl, fun _ => ⟨rfl, ?_⟩, fun h => absurd HG.out h⟩, set2_below (HB5.out.setCell (p := ⟨yb, 1, none⟩) (by show w.heap.size ≤ yb; omega) _) _ (by omega) _ _⟩
        rw [HA.out]
        refine row_base (row_keep HR5.out (fun g e => (set2_other (HN5.out g e).2 _ _).trans (heap_setCell_other _ ⟨yb, 1, none⟩ _ _ (HN5.out g e).1))) (by omega)
      · obtain ⟨k, hk⟩ : ∃ k, n = k + 1 := ⟨b.length, by rw [← hln, hl0]; simp⟩
        subst hk
        have hbk : k < l.length := by omega
        have hgk : l[k] = o := by
          have : k = b.length := by rw [hl0] at hln; simp at hln; omega
          subst this; simp [hl0]
        obtain ⟨g, cap', hv2⟩ := row_some HO.out.row (by omega)
        rw [hln] at hv2
        cases hv2
        obtain ⟨r0, r1⟩ := HO.out.row.ext k hbk
        rw [hgk] at r0 r1
        have hoo : Ok o := HL.out o (by rw [hl0]; simp)
        unfold Ok at hoo
        obtain ⟨op, ol⟩ := o
        dsimp only at hoo r0 r1
        have hik : (k : Int) < (k : Int) + 1 := by omega
        have hsub : IntKind.i64.wrap (k : Int) = k := IntWalk.i64_in _ (by omega)
        have hadd : IntKind.i64.wrap (op + ol) = op + ol := IntWalk.i64_in _ (by omega)
        have HS : WZ.cell? ⟨yb, 1, none⟩ = some (.slice (some ⟨g, 0, none⟩) (k + 1) cap2) ∧ WZ.cell? ⟨g, k * 2, none⟩ = some (.int .i64 op) ∧ WZ.cell? ⟨g, k * 2 + 1, none⟩ = some (.int .i64 ol) ∧ WZ.cell? ⟨w.heap.size + 1, 0, none⟩ = some (.int .i64 p) := ⟨zz1, r0, r1, ee0⟩
        go_wp2_with fail
        refine wp_region_held_drew (S := fun W => W.cell? ⟨yb, 1, none⟩ = some (.slice (some ⟨g, 0, none⟩) (k + 1) cap2) ∧ W.cell? ⟨g, k * 2, none⟩ = some (.int .i64 op) ∧ W.cell? ⟨g, k * 2 + 1, none⟩ = some (.int .i64 ol) ∧ W.cell? ⟨w.heap.size + 1, 0, none⟩ = some (.int .i64 p)) (by kernel_rfl) (by exact HS) (fun hHeld => ?_)
        change wpAnyH _ _ _ _ _ 22 (Array.replicate 22 false) _ _
        refine wpAnyH_take (i := 0) (oi := _) (v := _) (by simp only [List.getElem?_toArray, List.getElem?_cons_zero]; rfl) (by kernel_rfl) (by kernel_rfl) (by kernel_rfl) (by exact fun _ _ _ h => h) (Or.inl ⟨by rfl, by intro w' hSw; (try dsimp only at hSw); first | (go_simp; done) | (go_simp; with_reducible rfl)⟩) hHeld ?_
        simp only [Act.put, List.setIfInBounds_toArray, List.set_cons_zero, List.set_cons_succ]
        refine wpAnyH_take (i := 1) (oi := _) (v := _) (by simp only [List.getElem?_toArray, List.getElem?_cons_succ, List.getElem?_cons_zero]; rfl) (by kernel_rfl) (by kernel_rfl) (by kernel_rfl) (by exact fun _ _ _ h => h) (Or.inl ⟨by rfl, by intro w' hSw; (try dsimp only at hSw); first | (go_simp; done) | (go_simp; with_reducible rfl)⟩) hHeld ?_
        simp only [Act.put, List.setIfInBounds_toArray, List.set_cons_zero, List.set_cons_succ]
        refine wpAnyH_take (i := 2) (oi := _) (v := _) (by simp only [List.getElem?_toArray, List.getElem?_cons_succ, List.getElem?_cons_zero]; rfl) (by kernel_rfl) (by kernel_rfl) (by kernel_rfl) (by exact fun _ _ _ h => h) (Or.inl ⟨by rfl, by intro w' hSw; (try dsimp only at hSw); first | (go_simp; done) | (go_simp; with_reducible rfl)⟩) hHeld ?_
        simp only [Act.put, List.setIfInBounds_toArray, List.set_cons_zero, List.set_cons_succ]
        refine wpAnyH_take (i := 3) (oi := _) (v := _) (by simp only [List.getElem?_toArray, List.getElem?_cons_succ, List.getElem?_cons_zero]; rfl) (by kernel_rfl) (by kernel_rfl) (by kernel_rfl) (by exact fun _ _ _ h => h) (Or.inl ⟨by rfl, by intro w' hSw; (try dsimp only at hSw); first | (go_simp; done) | (go_simp; with_reducible rfl)⟩) hHeld ?_
        simp only [Act.put, List.setIfInBounds_toArray, List.set_cons_zero, List.set_cons_succ]
        refine wpAnyH_take (i := 4) (oi := _) (v := _) (by simp only [List.getElem?_toArray, List.getElem?_cons_succ, List.getElem?_cons_zero]; rfl) (by kernel_rfl) (by kernel_rfl) (by kernel_rfl) (by exact fun _ _ _ h => h) (Or.inl ⟨by rfl, by intro w' hSw; (try dsimp only at hSw); first | (go_simp; done) | (go_simp; with_reducible rfl)⟩) hHeld ?_
        simp only [Act.put, List.setIfInBounds_toArray, List.set_cons_zero, List.set_cons_succ]
        refine wpAnyH_take (i := 5) (oi := _) (v := _) (by simp only [List.getElem?_toArray, List.getElem?_cons_succ, List.getElem?_cons_zero]; rfl) (by kernel_rfl) (by kernel_rfl) (by kernel_rfl) (by exact fun _ _ _ h => h) (Or.inl ⟨by rfl, by intro w' hSw; (try dsimp only at hSw); first | (go_simp; done) | (go_simp; with_reducible rfl)⟩) hHeld ?_
        simp only [Act.put, List.setIfInBounds_toArray, List.set_cons_zero, List.set_cons_succ]
        refine wpAnyH_take (i := 6) (oi := _) (v := _) (by simp only [List.getElem?_toArray, List.getElem?_cons_succ, List.getElem?_cons_zero]; rfl) (by kernel_rfl) (by kernel_rfl) (by kernel_rfl) (by exact fun _ _ _ h => h) (Or.inl ⟨by rfl, by intro w' hSw; (try dsimp only at hSw); first | (go_simp; done) | (go_simp; with_reducible rfl)⟩) hHeld ?_
        simp only [Act.put, List.setIfInBounds_toArray, List.set_cons_zero, List.set_cons_succ]
        refine wpAnyH_take (i := 7) (oi := _) (v := _) (by simp only [List.getElem?_toArray, List.getElem?_cons_succ, List.getElem?_cons_zero]; rfl) (by kernel_rfl) (by kernel_rfl) (by kernel_rfl) (by exact fun _ _ _ h => h) (Or.inl ⟨by rfl, by intro w' hSw; (try dsimp only at hSw); first | (go_simp; done) | (go_simp; with_reducible rfl)⟩) hHeld ?_
        simp only [Act.put, List.setIfInBounds_toArray, List.set_cons_zero, List.set_cons_succ]
        refine wpAnyH_take (i := 8) (oi := _) (v := _) (by simp only [List.getElem?_toArray, List.getElem?_cons_succ, List.getElem?_cons_zero]; rfl) (by kernel_rfl) (by kernel_rfl) (by kernel_rfl) (by exact fun _ _ _ h => h) (Or.inl ⟨by rfl, by intro w' hSw; (try dsimp only at hSw); first | (go_simp; done) | (go_simp; with_reducible rfl)⟩) hHeld ?_
        simp only [Act.put, List.setIfInBounds_toArray, List.set_cons_zero, List.set_cons_succ]
        refine wpAnyH_take (i := 9) (oi := _) (v := _) (by simp only [List.getElem?_toArray, List.getElem?_cons_succ, List.getElem?_cons_zero]; rfl) (by kernel_rfl) (by kernel_rfl) (by kernel_rfl) (by exact fun _ _ _ h => h) (Or.inl ⟨by rfl, by intro w' hSw; (try dsimp only at hSw); first | (go_simp; done) | (go_simp; with_reducible rfl)⟩) hHeld ?_
        simp only [Act.put, List.setIfInBounds_toArray, List.set_cons_zero, List.set_cons_succ]
        refine wpAnyH_take (i := 10) (oi := _) (v := _) (by simp only [List.getElem?_toArray, List.getElem?_cons_succ, List.getElem?_cons_zero]; rfl) (by kernel_rfl) (by kernel_rfl) (by kernel_rfl) (by exact fun _ _ _ h => h) (Or.inl ⟨by rfl, by intro w' hSw; (try dsimp only at hSw); first | (go_simp; done) | (go_simp; with_reducible rfl)⟩) hHeld ?_
        simp only [Act.put, List.setIfInBounds_toArray, List.set_cons_zero, List.set_cons_succ]
        refine wpAnyH_take (i := 11) (oi := _) (v := _) (by simp only [List.getElem?_toArray, List.getElem?_cons_succ, List.getElem?_cons_zero]; rfl) (by kernel_rfl) (by kernel_rfl) (by kernel_rfl) (by exact fun _ _ _ h => h) (Or.inl ⟨by rfl, by intro w' hSw; (try dsimp only at hSw); first | (go_simp; done) | (go_simp; with_reducible rfl)⟩) hHeld ?_
        simp only [Act.put, List.setIfInBounds_toArray, List.set_cons_zero, List.set_cons_succ]
        refine wpAnyH_take (i := 12) (oi := _) (v := _) (by simp only [List.getElem?_toArray, List.getElem?_cons_succ, List.getElem?_cons_zero]; rfl) (by kernel_rfl) (by kernel_rfl) (by kernel_rfl) (by exact fun _ _ _ h => h) (Or.inl ⟨by rfl, by intro w' hSw; (try dsimp only at hSw); first | (go_simp; done) | (go_simp; with_reducible rfl)⟩) hHeld ?_
        simp only [Act.put, List.setIfInBounds_toArray, List.set_cons_zero, List.set_cons_succ]
        refine wpAnyH_take (i := 13) (oi := _) (v := _) (by simp only [List.getElem?_toArray, List.getElem?_cons_succ, List.getElem?_cons_zero]; rfl) (by kernel_rfl) (by kernel_rfl) (by kernel_rfl) (by exact fun _ _ _ h => h) (Or.inl ⟨by rfl, by intro w' hSw; (try dsimp only at hSw); first | (go_simp; done) | (go_simp; with_reducible rfl)⟩) hHeld ?_
        simp only [Act.put, List.setIfInBounds_toArray, List.set_cons_zero, List.set_cons_succ]
        refine wpAnyH_take (i := 14) (oi := _) (v := _) (by simp only [List.getElem?_toArray, List.getElem?_cons_succ, List.getElem?_cons_zero]; rfl) (by kernel_rfl) (by kernel_rfl) (by kernel_rfl) (by exact fun _ _ _ h => h) (Or.inl ⟨by rfl, by intro w' hSw; (try dsimp only at hSw); first | (go_simp; done) | (go_simp; with_reducible rfl)⟩) hHeld ?_
        simp only [Act.put, List.setIfInBounds_toArray, List.set_cons_zero, List.set_cons_succ]
        refine wpAnyH_take (i := 15) (oi := _) (v := _) (by simp only [List.getElem?_toArray, List.getElem?_cons_succ, List.getElem?_cons_zero]; rfl) (by kernel_rfl) (by kernel_rfl) (by kernel_rfl) (by exact fun _ _ _ h => h) (Or.inl ⟨by rfl, by intro w' hSw; (try dsimp only at hSw); first | (go_simp; done) | (go_simp; with_reducible rfl)⟩) hHeld ?_
        simp only [Act.put, List.setIfInBounds_toArray, List.set_cons_zero, List.set_cons_succ]
        refine wpAnyH_take (i := 16) (oi := _) (v := _) (by simp only [List.getElem?_toArray, List.getElem?_cons_succ, List.getElem?_cons_zero]; rfl) (by kernel_rfl) (by kernel_rfl) (by kernel_rfl) (by exact fun _ _ _ h => h) (Or.inl ⟨by rfl, by intro w' hSw; (try dsimp only at hSw); first | (go_simp; done) | (go_simp; with_reducible rfl)⟩) hHeld ?_
        simp only [Act.put, List.setIfInBounds_toArray, List.set_cons_zero, List.set_cons_succ]
        refine wpAnyH_take (i := 17) (oi := _) (v := _) (by simp only [List.getElem?_toArray, List.getElem?_cons_succ, List.getElem?_cons_zero]; rfl) (by kernel_rfl) (by kernel_rfl) (by kernel_rfl) (by exact fun _ _ _ h => h) (Or.inl ⟨by rfl, by intro w' hSw; (try dsimp only at hSw); first | (go_simp; done) | (go_simp; with_reducible rfl)⟩) hHeld ?_
        simp only [Act.put, List.setIfInBounds_toArray, List.set_cons_zero, List.set_cons_succ]
        refine wpAnyH_take (i := 18) (oi := _) (v := _) (by simp only [List.getElem?_toArray, List.getElem?_cons_succ, List.getElem?_cons_zero]; rfl) (by kernel_rfl) (by kernel_rfl) (by kernel_rfl) (by exact fun _ _ _ h => h) (Or.inl ⟨by rfl, by intro w' hSw; (try dsimp only at hSw); first | (go_simp; done) | (go_simp; with_reducible rfl)⟩) hHeld ?_
        simp only [Act.put, List.setIfInBounds_toArray, List.set_cons_zero, List.set_cons_succ]
        refine wpAnyH_take (i := 19) (oi := _) (v := _) (by simp only [List.getElem?_toArray, List.getElem?_cons_succ, List.getElem?_cons_zero]; rfl) (by kernel_rfl) (by kernel_rfl) (by kernel_rfl) (by exact fun _ _ _ h => h) (Or.inl ⟨by rfl, by intro w' hSw; (try dsimp only at hSw); first | (go_simp; done) | (go_simp; with_reducible rfl)⟩) hHeld ?_
        simp only [Act.put, List.setIfInBounds_toArray, List.set_cons_zero, List.set_cons_succ]
        refine wpAnyH_take (i := 20) (oi := _) (v := _) (by simp only [List.getElem?_toArray, List.getElem?_cons_succ, List.getElem?_cons_zero]; rfl) (by kernel_rfl) (by kernel_rfl) (by kernel_rfl) (by exact fun _ _ _ h => h) (Or.inl ⟨by rfl, by intro w' hSw; (try dsimp only at hSw); first | (go_simp; done) | (go_simp; with_reducible rfl)⟩) hHeld ?_
        simp only [Act.put, List.setIfInBounds_toArray, List.set_cons_zero, List.set_cons_succ]
        refine wpAnyH_take (i := 21) (oi := _) (v := _) (by simp only [List.getElem?_toArray, List.getElem?_cons_succ, List.getElem?_cons_zero]; rfl) (by kernel_rfl) (by kernel_rfl) (by kernel_rfl) (by exact fun _ _ _ h => h) (Or.inl ⟨by rfl, by intro w' hSw; (try dsimp only at hSw); first | (go_simp; done) | (go_simp; with_reducible rfl)⟩) hHeld ?_
        simp only [Act.put, List.setIfInBounds_toArray, List.set_cons_zero, List.set_cons_succ]
        refine wpAnyH_done (by kernel_rfl) ?_ _
        clear HS hHeld hsub
        have HOy : Hid (OutR w1 WZ.drew yb (ver + 1) (.slice (some ⟨g, 0, none⟩) (k + 1) cap2) l) := ⟨HO.out.y, World.ownsRow.drew HO.out.row, HO.out.below.drew, HO.out.yge, HO.out.ne⟩
        have HEy : Hid (WZ.drew.heap[w.heap.size + 1]? = some (.cells #[.int .i64 p, .int .i64 q] 39 (0, 0))) := HE.out
        have HYy : Hid (WZ.drew.heap[w.heap.size + 1 + 1]? = some (.cells #[.int .i64 0, .slice none 0 0] 29 (0, 0))) := HY.out
        have HBy : Hid (Below w.heap.size w WZ.drew) := HBZ.out.drew
        have HWy : Hid (WZ.drew.ownsRow w1.heap.size 39 2 (.slice (some ⟨g, 0, none⟩) (k + 1) cap2) (k + 1) (ecells l)) := World.ownsRow.drew HOWN.out
        clear HO HE HY HBZ HOWN zz0 zz1 zf0 zf1 ee0 ee1
        generalize WZ.drew = WY at *
        obtain ⟨zz0, zz1, zf0, zf1⟩ := agg2 HOy.out.y
        obtain ⟨ee0, ee1, _, _⟩ := agg2 HEy.out
        have r0' := (HOy.out.row.ext k hbk).1
        have r1' := (HOy.out.row.ext k hbk).2
        rw [hgk] at r0' r1'
        dsimp only at r0' r1'
        clear r0 r1
        cases hj : (op + ol == p)
        · have HA : Hid (appF l ⟨p, q⟩ = l ++ [⟨p, q⟩]) := by show _ = _; rw [hl0]; exact appF_new _ _ _ (by simpa using hj)
          by_cases h36 : k + 1 < 36
          · have HG : Hid (growE l ⟨p, q⟩ = 0) := by show _ = _; unfold growE; rw [hm, if_pos rfl, if_pos (.inr (by rw [hln]; omega))]
            have h36' : ((k : Int) + 1 == 36) = false := by rw [beq_eq_false_iff_ne]; omega
            go_wp2_with (
              at_builtin
              refine wpList_append_near _ rfl _ _ 27 rfl w1.heap.size 39 i0 _ 2 16 Tryd.underlying27 hi hz0 hz1 hz2 rfl (by decide) (.slice (some ⟨g, 0, none⟩) (k + 1) cap2) (k + 1) (ecells l) rfl (World.ownsRow.alloc HWy.out _) ⟨WY.heap.size, 0, none⟩ 1 1 [.int .i64 p, .int .i64 q] rfl rfl (cells_new2 _ _ _ _) (by intro u hu; simp only [List.mem_cons, List.not_mem_nil, or_false] at hu; rcases hu with rfl | rfl <;> rfl) (by unfold maxLen; omega) (by omega) (by have := HOy.out.below.size; simp; omega) ?_
              intro v5 w5 hown5 hgrow hnear
              obtain ⟨a5, cap5, hv5, hm5⟩ := row_slice hown5
              subst hv5
              have HBK : Hid (∀ j, j < WY.heap.size → (∀ i, (Value.slice (some ⟨g, 0, none⟩) (k + 1) cap2).ownBlock = some i → j ≠ i) → w5.heap[j]? = WY.heap[j]?) := fun j hk hne => (hgrow.block j (by simp; omega) (fun e => hne j e.symm rfl)).trans (Below.heap_alloc _ _ _ hk)
              have HZ5 : w5.heap[yb]? = some (.cells #[.int .i64 (ver + 1), .slice (some ⟨g, 0, none⟩) (k + 1) cap2] 29 (0, 0)) := (HBK.out _ (lt_of_heap HOy.out.y) (fun g e => by have := HOy.out.ne g e; omega)).trans HOy.out.y
              have HY5 : w5.heap[w.heap.size + 1 + 1]? = some (.cells #[.int .i64 0, .slice none 0 0] 29 (0, 0)) := (HBK.out _ (lt_of_heap HYy.out) (fun g e => by have := row_ge HOy.out.row g e; omega)).trans HYy.out
              have HR5 : Hid (RowR w5 w1.heap.size (.slice a5 (k + 1 + 1) cap5) (l ++ [⟨p, q⟩])) := by
                show World.ownsRow _ _ _ _ _ _ _
                rw [ecells_append, List.length_append, hln]
                exact hown5
              have HB5 : Hid (Below w.heap.size w w5) := (HBy.out.alloc HBy.out.size _).grown hgrow (by have := HBy.out.size; simp; omega) (fun k e => by have := row_ge HOy.out.row k e; omega)
              have HN5 : Hid (∀ g, (Value.slice a5 (k + 1 + 1) cap5).ownBlock = some g → g ≠ yb ∧ g ≠ w.heap.size + 1 + 1) := by
                intro g e
                have := row_ge HR5.out g e
                refine ⟨?_, by omega⟩
                rcases hnear with h | ⟨j, h, hj⟩
                · rw [h] at e; exact HOy.out.ne g e
                · rw [h] at e; cases e
                  have := lt_of_heap HOy.out.y
                  simp at hj; omega
              have HY6 : (w5.setCell ⟨yb, 1, none⟩ (.slice a5 (k + 1 + 1) cap5)).heap[w.heap.size + 1 + 1]? = some (.cells #[.int .i64 0, .slice none 0 0] 29 (0, 0)) := (heap_setCell_other _ ⟨yb, 1, none⟩ _ _ (by show w.heap.size + 1 + 1 ≠ yb; omega)).trans HY5
              have HY6' : Hid (_ = _) := HY6
              obtain ⟨g0, g1, g2, g3⟩ := agg2 HZ5
              obtain ⟨u0, u1, u2, u3⟩ := agg2 HY6
              clear r0' r1' hgrow hnear hown5 HBK HZ5 HY5 HY6 hm5 zz0 zz1 zf0 zf1 ee0 ee1)
            refine bodyPost_ret (res_growR _ (w.heap.size + 1 + 1) _ (ver + 1) a5 (k + 1 + 1) cap5 _ rfl rfl (set2_heap HY6'.out _ _)) rfl ?_
            refine ⟨⟨ver + 1, .slice a5 (k + 1 + 1) cap5, by rw [HG.out]; rfl, fun _ => ⟨rfl, ?_⟩, fun h => absurd HG.out h⟩, set2_below (HB5.out.setCell (p := ⟨yb, 1, none⟩) (by show w.heap.size ≤ yb; omega) _) _ (by omega) _ _⟩
            rw [HA.out]
            refine row_base (row_keep HR5.out (fun g e => (set2_other (HN5.out g e).2 _ _).trans (heap_setCell_other _ ⟨yb, 1, none⟩ _ _ (HN5.out g e).1))) (by omega)
          · have HG : Hid (growE l ⟨p, q⟩ = 19) := by show _ = _; unfold growE; rw [hm, if_pos rfl, if_neg]; rw [hl0, joinsF_last, ← hl0, hln]; dsimp only; rw [hj]; simp; omega
            have h36' : ((k : Int) + 1 == 36) = true := by rw [beq_iff_eq]; omega
            obtain ⟨u0, u1, u2, u3⟩ := agg2 HYy.out
            go_wp2
            refine bodyPost_ret (res_growR _ (w.heap.size + 1 + 1) _ 0 none 0 0 _ rfl rfl (set2_heap HYy.out _ _)) rfl ?_
            refine ⟨⟨0, .slice none 0 0, ?_, fun h => ?_, fun _ => ⟨rfl, rfl⟩⟩, set2_below HBy.out _ (by omega) _ _⟩
            · rw [HG.out]; rfl
            · rw [HG.out] at h; cases h
        · have HA : Hid (appF l ⟨p, q⟩ = b ++ [⟨op, ol + q⟩]) := by show _ = _; rw [hl0]; exact appF_join _ _ _ (by simpa using hj)
          have HG : Hid (growE l ⟨p, q⟩ = 0) := by show _ = _; unfold growE; rw [hm, if_pos rfl, if_pos (.inl (by rw [hl0, joinsF_last]; exact hj))]
          have hpq : Ok ⟨p, q⟩ := (belowF_ok _).1 (by unfold mayF at hm; simp only [Bool.and_eq_true] at hm; exact hm.1)
          unfold Ok at hpq
          dsimp only at hpq
          have rf : WY.frozen? ⟨g, k * 2 + 1, none⟩ = false := World.ownsRow.frozenAt (n := k + 1) HWy.out _
          have HL0 : Hid (l = b ++ [⟨op, ol⟩]) := hl0
          clear hl0 hgk
          go_wp2_with fail
          go_region
          obtain ⟨w5, hw5⟩ : ∃ w5, w5 = (WY.setCell ⟨g, k * 2 + 1, none⟩ (.int .i64 (ol + q))).drew := ⟨_, rfl⟩
          rw [← hw5]
          have hg1 : g ≠ yb := HOy.out.ne g rfl
          have hg2 : g ≠ w.heap.size + 1 + 1 := by have := row_ge HOy.out.row g rfl; omega
          have HZ5 : w5.heap[yb]? = some (.cells #[.int .i64 (ver + 1), .slice (some ⟨g, 0, none⟩) (k + 1) cap2] 29 (0, 0)) := by rw [hw5]; exact (heap_setCell_other _ ⟨g, k * 2 + 1, none⟩ _ _ (by show yb ≠ g; omega)).trans HOy.out.y
          have HY5 : w5.heap[w.heap.size + 1 + 1]? = some (.cells #[.int .i64 0, .slice none 0 0] 29 (0, 0)) := by rw [hw5]; exact (heap_setCell_other _ ⟨g, k * 2 + 1, none⟩ _ _ (by show w.heap.size + 1 + 1 ≠ g; omega)).trans HYy.out
          have HY5' : Hid (_ = _) := HY5
          have HR5 : Hid (RowR w5 w1.heap.size (.slice (some ⟨g, 0, none⟩) (k + 1) cap2) (b ++ [⟨op, ol + q⟩])) := by
            have h5 := World.ownsRow.drew (World.ownsRow.stored HWy.out (k * 2 + 1) (.int .i64 (ol + q))).1
            rw [hw5]
            show World.ownsRow _ _ _ _ _ _ _
            have hkb : k = b.length := by have := hln; rw [HL0.out] at this; simp at this; omega
            rw [show (b ++ [(⟨op, ol + q⟩ : Ext)]).length = k + 1 by simp; omega, ← ecells_set_len b ⟨op, ol⟩ (ol + q), ← hkb, ← HL0.out]
            exact h5
          have HB5 : Hid (Below w.heap.size w w5) := by
            rw [hw5]
            exact (HBy.out.setCell (p := ⟨g, k * 2 + 1, none⟩) (by show w.heap.size ≤ g; have := row_ge HOy.out.row g rfl; omega) _).drew
          obtain ⟨g0, g1, g2, g3⟩ := agg2 HZ5
          obtain ⟨u0, u1, u2, u3⟩ := agg2 HY5
          clear hw5 HZ5 HY5 rf r0' r1' zz0 zz1 zf0 zf1 ee0 ee1
          go_wp2
          refine bodyPost_ret (res_growR _ (w.heap.size + 1 + 1) _ (ver + 1) (some ⟨g, 0, none⟩) (k + 1) cap2 _ rfl rfl (set2_heap HY5'.out _ _)) rfl ?_
          refine ⟨⟨ver + 1, .slice (some ⟨g, 0, none⟩) (k + 1) cap2, by rw [HG.out]; rfl, fun _ => ⟨rfl, ?_⟩, fun h => absurd HG.out h⟩, set2_below HB5.out _ (by omega) _ _⟩
          rw [HA.out]
          exact row_base (row_keep HR5.out (fun g' e => set2_other (by cases e; exact hg2) _ _)) (by omega)

end Go.Proofs.YtadimbpgdihjlaaDoor.Id
