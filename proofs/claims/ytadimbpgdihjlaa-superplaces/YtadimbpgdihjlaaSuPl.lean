/-
  SuperPlaces answers true for every input: where everything is, of any layout; one behind the other, to the device's end. No condition.
-/
import Derived.Test.YtadimbpgdihjlaaSuRef
namespace Go.Proofs.Ytadimbpgdihjlaa.Su
open Go.ChangeShapes Go.WideShapes Go.ChangeAt Go.RowKit

set_option maxRecDepth 100000
set_option maxHeartbeats 1000000

/-- Where the statement stands: both layouts, the places. -/
structure St (w : World) (b c : Nat) (s j p0 p1 p2 p3 : Int) (W : World) : Prop where
  l : LayAt b s j W
  m : LayAt (b + 1) s j W
  p : W.heap[c]? = some (.cells #[.int .i64 p0, .int .i64 p1, .int .i64 p2, .int .i64 p3] 26 (0, 0))
  below : Below w.heap.size w W
theorem St.next {w : World} {b c : Nat} {s j p0 p1 p2 p3 : Int} {W W' : World} (h : St w b c s j p0 p1 p2 p3 W) (hb : Below W.heap.size W W') : St w b c s j p0 p1 p2 p3 W' :=
  ⟨h.l.below hb, h.m.below hb, (hb.block _ (lt_of_heap h.p)).trans h.p, h.below.trans (hb.mono h.below.size)⟩
theorem St.cells {w : World} {b c : Nat} {s j p0 p1 p2 p3 : Int} {W : World} (h : St w b c s j p0 p1 p2 p3 W) : W.cell? ⟨b, 0, none⟩ = some (.int .i64 s) ∧ W.cell? ⟨b, 1, none⟩ = some (.int .i64 j) ∧ W.cell? ⟨b + 1, 0, none⟩ = some (.int .i64 s) ∧ W.cell? ⟨b + 1, 1, none⟩ = some (.int .i64 j) ∧ W.cell? ⟨c, 0, none⟩ = some (.int .i64 p0) ∧ W.cell? ⟨c, 1, none⟩ = some (.int .i64 p1) ∧ W.cell? ⟨c, 2, none⟩ = some (.int .i64 p2) ∧ W.cell? ⟨c, 3, none⟩ = some (.int .i64 p3) :=
  ⟨h.l.1, h.l.2, h.m.1, h.m.2, cell_of_heap h.p 0 _ rfl, cell_of_heap h.p 1 _ rfl, cell_of_heap h.p 2 _ rfl, cell_of_heap h.p 3 _ rfl⟩

theorem places_in (s j f : Int) (w : World) (hf : f ≤ 9223372036854775807 ∧ -9223372036854775808 ≤ f) (hp : RightP s j) (h1 : 0 ≤ f) (h2 : f < 4) :
    Calls Try.prog 3 #[.int .i64 s, .int .i64 j, .int .i64 f] w fun r w' => r = .returned (.bool true) ∧ Below w.heap.size w w' := by
  have hplaces : Hid (∀ w, _) := fun w => refplaces_any s j w
  have hrr : Hid (∀ w, _) := fun w => refright_any s j w
  have hring : Hid (∀ w, _) := fun w => ring_any s j w
  have hino : Hid (∀ w, _) := fun w => inode_any s j f w
  have hdata : Hid (∀ w, _) := fun w => data_any s j w
  have hright : Hid (∀ w, _) := fun w => right_any s j w
  have hbits : Hid (∀ w, _) := fun w => bits_any s j w
  have HP : Hid (placesF s j = .agg #[.int .i64 1, .int .i64 (1 + j), .int .i64 (2 + j), .int .i64 (6 + j)]) := by exact if_pos hp
  have HR : Hid (decide (RightP s j) = true) := by exact decide_eq_true hp
  have HG : Hid (ringF s j = .tuple #[.int .i64 1, .int .i64 j]) := by show _ = _; unfold ringF; rw [if_pos hp, if_pos hp]
  have HI : Hid (inodeF s j f = .tuple #[.int .i64 (2 + j + f), .bool true]) := by exact if_pos ⟨hp, h1, h2⟩
  have HD : Hid (dataF s j = .tuple #[.int .i64 (6 + j), .int .i64 (s - (6 + j))]) := by exact if_pos hp
  have HT : Hid (bitsF s j = 1 + j) := by exact if_pos hp
  have hj : 8 ≤ j ∧ j ≤ 512 ∧ s ≤ 2048 ∧ 6 + j < s := hp
  obtain ⟨hj0, hj1, hj2, hj3⟩ := hj
  clear hp
  have HRG : Hid (∀ w, Calls Try.prog 10 #[.agg #[.int .i64 s, .int .i64 j]] w fun r w' => r = .returned (.bool true) ∧ Below w.heap.size w w') := fun w => by have h := hright.out w; rw [HR.out] at h; exact h
  have HBT : Hid (∀ w, Calls Try.prog 11 #[.agg #[.int .i64 s, .int .i64 j]] w fun r w' => r = .returned (.int .i64 (1 + j)) ∧ Below w.heap.size w w') := fun w => by have h := hbits.out w; rw [HT.out] at h; exact h
  clear hright hbits
  go_enter Try.func3, Try.ntmps3
  go_wp2_with fail
  refine (speaks_any _).mono ?_
  rintro r w1 ⟨rfl, hb1⟩
  obtain ⟨w2, hw2⟩ : ∃ w2, w2 = (w1.alloc (.cells #[.int .i64 s, .int .i64 j] 24)).alloc (.cells #[.int .i64 s, .int .i64 j] 25) := ⟨_, rfl⟩
  have HL2 : Hid (LayAt w1.heap.size s j w2) := by rw [hw2]; exact (lay_new w1 s j _).below ((Below.refl _ _).alloc (Nat.le_refl _) _)
  have HM2 : Hid (LayAt (w1.heap.size + 1) s j w2) := by
    rw [hw2]
    have := lay_new (w1.alloc (.cells #[.int .i64 s, .int .i64 j] 24)) s j 25
    rw [World.size_alloc] at this
    exact this
  have HB2 : Hid (Below w.heap.size w w2) := by rw [hw2]; exact (hb1.alloc hb1.size _).alloc (by have := hb1.size; simp; omega) _
  clear hb1
  generalize hb : w1.heap.size = b at *
  go_wp2_with fail
  first | rw [← hw2] | (rw [hb]; rw [← hw2])
  refine (hplaces.out _).mono ?_
  rintro r w3 ⟨rfl, hb3⟩
  rw [HP.out]
  have HL3 : Hid (St w b w3.heap.size s j (1) ((1 + j)) ((2 + j)) ((6 + j)) (w3.alloc (.cells #[.int .i64 1, .int .i64 (1 + j), .int .i64 (2 + j), .int .i64 (6 + j)] 26))) :=
    ⟨(HL2.out.below hb3).below ((Below.refl _ _).alloc (Nat.le_refl _) _), (HM2.out.below hb3).below ((Below.refl _ _).alloc (Nat.le_refl _) _), heap_alloc_new _ _, (HB2.out.trans (hb3.mono HB2.out.size)).alloc (by have := HB2.out.size; have := hb3.size; omega) _⟩
  obtain ⟨x0, x1, x2, x3, _⟩ := HL3.out.cells
  clear hb3 hw2 HL2 HM2 HB2 hplaces HP hb
  go_wp2_with fail
  refine (hrr.out _).mono ?_
  rintro r w4 ⟨rfl, hb4⟩
  rw [HR.out]
  have HL4 : Hid (St w b w3.heap.size s j (1) ((1 + j)) ((2 + j)) ((6 + j)) w4) := HL3.out.next hb4
  clear hb4 HL3 x0 x1 x2 x3 hrr
  generalize w3.heap.size = c at *
  obtain ⟨x0, x1, x2, x3, x4, x5, x6, x7⟩ := HL4.out.cells
  go_wp2_with fail
  refine (hring.out _).mono ?_
  rintro r w5 ⟨rfl, hb⟩
  rw [HG.out]
  have HL5 : Hid (St w b c s j (1) ((1 + j)) ((2 + j)) ((6 + j)) w5) := HL4.out.next hb
  clear hb HL4 x0 x1 x2 x3 x4 x5 x6 x7 hring
  obtain ⟨x0, x1, x2, x3, x4, x5, x6, x7⟩ := HL5.out.cells
  go_wp2_with fail
  refine (hino.out _).mono ?_
  rintro r w6 ⟨rfl, hb⟩
  rw [HI.out]
  have HL6 : Hid (St w b c s j (1) ((1 + j)) ((2 + j)) ((6 + j)) w6) := HL5.out.next hb
  clear hb HL5 x0 x1 x2 x3 x4 x5 x6 x7 hino
  obtain ⟨x0, x1, x2, x3, x4, x5, x6, x7⟩ := HL6.out.cells
  go_wp2_with fail
  refine (hdata.out _).mono ?_
  rintro r w7 ⟨rfl, hb⟩
  rw [HD.out]
  have HL7 : Hid (St w b c s j (1) ((1 + j)) ((2 + j)) ((6 + j)) w7) := HL6.out.next hb
  clear hb HL6 x0 x1 x2 x3 x4 x5 x6 x7 hdata
  obtain ⟨x0, x1, x2, x3, x4, x5, x6, x7⟩ := HL7.out.cells
  go_wp2_with fail
  refine wp_region_held_drew (S := fun W => W.cell? ⟨b, 0, none⟩ = some (.int .i64 s) ∧ W.cell? ⟨b, 1, none⟩ = some (.int .i64 j) ∧ W.cell? ⟨c, 0, none⟩ = some (.int .i64 1) ∧ W.cell? ⟨c, 1, none⟩ = some (.int .i64 (1 + j)) ∧ W.cell? ⟨c, 3, none⟩ = some (.int .i64 (6 + j))) (by kernel_rfl) (by exact ⟨x0, x1, x4, x5, x7⟩) (fun hHeld => ?_)
  change wpAnyH _ _ _ _ _ 28 (Array.replicate 28 false) _ _
  refine wpAnyH_take (i := 0) (oi := _) (v := _) (by simp only [List.getElem?_toArray, List.getElem?_cons_zero]; rfl) (by kernel_rfl) (by kernel_rfl) (by kernel_rfl) (by exact fun _ _ _ h => h) (Or.inl ⟨by rfl, by intro w' hSw; (try dsimp only at hSw); first | (go_simp; done) | (go_simp; with_reducible rfl)⟩) hHeld ?_
  simp only [Act.put, List.setIfInBounds_toArray, List.set_cons_zero, List.set_cons_succ]
  refine wpAnyH_take (i := 2) (oi := _) (v := _) (by simp only [List.getElem?_toArray, List.getElem?_cons_succ, List.getElem?_cons_zero]; rfl) (by kernel_rfl) (by kernel_rfl) (by kernel_rfl) (by exact fun _ _ _ h => h) (Or.inl ⟨by rfl, by intro w' hSw; (try dsimp only at hSw); first | (go_simp; done) | (go_simp; with_reducible rfl)⟩) hHeld ?_
  simp only [Act.put, List.setIfInBounds_toArray, List.set_cons_zero, List.set_cons_succ]
  refine wpAnyH_ready (rs := [1]) (by kernel_rfl) (by simp) ?_
  refine AllReadyH.cons rfl (fun K hK => ?_) AllReadyH.nil
  go_simp
  go_wp2_with fail
  refine (HRG.out _).mono ?_
  rintro r w8 ⟨rfl, hb8⟩
  have HL8 : Hid (St w b c s j (1) ((1 + j)) ((2 + j)) ((6 + j)) w8) := (HL7.out.next (W' := w7.drew) ((Below.refl _ _).drew)).next hb8
  clear hb8
  obtain ⟨y0, y1, y2, y3, y4, y5, y6, y7⟩ := HL8.out.cells
  refine hK.out _ _ ⟨y0, y1, y4, y5, y7⟩ (fun hHeld => ?_)
  clear hK K y0 y1 y2 y3 y4 y5 y6 y7
  refine wpAnyH_take (i := 3) (oi := _) (v := _) (by simp only [List.getElem?_toArray, List.getElem?_cons_succ, List.getElem?_cons_zero]; rfl) (by kernel_rfl) (by kernel_rfl) (by kernel_rfl) (by exact fun _ _ _ h => h) (Or.inl ⟨by rfl, by intro w' hSw; (try dsimp only at hSw); first | (go_simp; done) | (go_simp; with_reducible rfl)⟩) hHeld ?_
  simp only [Act.put, List.setIfInBounds_toArray, List.set_cons_zero, List.set_cons_succ]
  refine wpAnyH_take (i := 4) (oi := _) (v := _) (by simp only [List.getElem?_toArray, List.getElem?_cons_succ, List.getElem?_cons_zero]; rfl) (by kernel_rfl) (by kernel_rfl) (by kernel_rfl) (by exact fun _ _ _ h => h) (Or.inl ⟨by rfl, by intro w' hSw; (try dsimp only at hSw); first | (go_simp; done) | (go_simp; with_reducible rfl)⟩) hHeld ?_
  simp only [Act.put, List.setIfInBounds_toArray, List.set_cons_zero, List.set_cons_succ]
  refine wpAnyH_take (i := 5) (oi := _) (v := _) (by simp only [List.getElem?_toArray, List.getElem?_cons_succ, List.getElem?_cons_zero]; rfl) (by kernel_rfl) (by kernel_rfl) (by kernel_rfl) (by exact fun _ _ _ h => h) (Or.inl ⟨by rfl, by intro w' hSw; (try dsimp only at hSw); first | (go_simp; done) | (go_simp; with_reducible rfl)⟩) hHeld ?_
  simp only [Act.put, List.setIfInBounds_toArray, List.set_cons_zero, List.set_cons_succ]
  refine wpAnyH_take (i := 6) (oi := _) (v := _) (by simp only [List.getElem?_toArray, List.getElem?_cons_succ, List.getElem?_cons_zero]; rfl) (by kernel_rfl) (by kernel_rfl) (by kernel_rfl) (by exact fun _ _ _ h => h) (Or.inl ⟨by rfl, by intro w' hSw; (try dsimp only at hSw); first | (go_simp; done) | (go_simp; with_reducible rfl)⟩) hHeld ?_
  simp only [Act.put, List.setIfInBounds_toArray, List.set_cons_zero, List.set_cons_succ]
  refine wpAnyH_take (i := 7) (oi := _) (v := _) (by simp only [List.getElem?_toArray, List.getElem?_cons_succ, List.getElem?_cons_zero]; rfl) (by kernel_rfl) (by kernel_rfl) (by kernel_rfl) (by exact fun _ _ _ h => h) (Or.inl ⟨by rfl, by intro w' hSw; (try dsimp only at hSw); first | (go_simp; done) | (go_simp; with_reducible rfl)⟩) hHeld ?_
  simp only [Act.put, List.setIfInBounds_toArray, List.set_cons_zero, List.set_cons_succ]
  refine wpAnyH_take (i := 8) (oi := _) (v := _) (by simp only [List.getElem?_toArray, List.getElem?_cons_succ, List.getElem?_cons_zero]; rfl) (by kernel_rfl) (by kernel_rfl) (by kernel_rfl) (by exact fun _ _ _ h => h) (Or.inl ⟨by rfl, by intro w' hSw; (try dsimp only at hSw); first | (go_simp; done) | (go_simp; with_reducible rfl)⟩) hHeld ?_
  simp only [Act.put, List.setIfInBounds_toArray, List.set_cons_zero, List.set_cons_succ]
  refine wpAnyH_take (i := 9) (oi := _) (v := _) (by simp only [List.getElem?_toArray, List.getElem?_cons_succ, List.getElem?_cons_zero]; rfl) (by kernel_rfl) (by kernel_rfl) (by kernel_rfl) (by exact fun _ _ _ h => h) (Or.inl ⟨by rfl, by intro w' hSw; (try dsimp only at hSw); first | (go_simp; done) | (go_simp; with_reducible rfl)⟩) hHeld ?_
  simp only [Act.put, List.setIfInBounds_toArray, List.set_cons_zero, List.set_cons_succ]
  refine wpAnyH_take (i := 10) (oi := _) (v := _) (by simp only [List.getElem?_toArray, List.getElem?_cons_succ, List.getElem?_cons_zero]; rfl) (by kernel_rfl) (by kernel_rfl) (by kernel_rfl) (by exact fun _ _ _ h => h) (Or.inl ⟨by rfl, by intro w' hSw; (try dsimp only at hSw); first | (go_simp; done) | (go_simp; with_reducible rfl)⟩) hHeld ?_
  simp only [Act.put, List.setIfInBounds_toArray, List.set_cons_zero, List.set_cons_succ]
  refine wpAnyH_take (i := 11) (oi := _) (v := _) (by simp only [List.getElem?_toArray, List.getElem?_cons_succ, List.getElem?_cons_zero]; rfl) (by kernel_rfl) (by kernel_rfl) (by kernel_rfl) (by exact fun _ _ _ h => h) (Or.inl ⟨by rfl, by intro w' hSw; (try dsimp only at hSw); first | (go_simp; done) | (go_simp; with_reducible rfl)⟩) hHeld ?_
  simp only [Act.put, List.setIfInBounds_toArray, List.set_cons_zero, List.set_cons_succ]
  refine wpAnyH_take (i := 13) (oi := _) (v := _) (by simp only [List.getElem?_toArray, List.getElem?_cons_succ, List.getElem?_cons_zero]; rfl) (by kernel_rfl) (by kernel_rfl) (by kernel_rfl) (by exact fun _ _ _ h => h) (Or.inl ⟨by rfl, by intro w' hSw; (try dsimp only at hSw); first | (go_simp; done) | (go_simp; with_reducible rfl)⟩) hHeld ?_
  simp only [Act.put, List.setIfInBounds_toArray, List.set_cons_zero, List.set_cons_succ]
  refine wpAnyH_take (i := 14) (oi := _) (v := _) (by simp only [List.getElem?_toArray, List.getElem?_cons_succ, List.getElem?_cons_zero]; rfl) (by kernel_rfl) (by kernel_rfl) (by kernel_rfl) (by exact fun _ _ _ h => h) (Or.inl ⟨by rfl, by intro w' hSw; (try dsimp only at hSw); first | (go_simp; done) | (go_simp; with_reducible rfl)⟩) hHeld ?_
  simp only [Act.put, List.setIfInBounds_toArray, List.set_cons_zero, List.set_cons_succ]
  refine wpAnyH_ready (rs := [12]) (by kernel_rfl) (by simp) ?_
  refine AllReadyH.cons rfl (fun K hK => ?_) AllReadyH.nil
  go_simp
  go_wp2_with fail
  refine (HBT.out _).mono ?_
  rintro r w9 ⟨rfl, hb9⟩
  have HL9 : Hid (St w b c s j (1) ((1 + j)) ((2 + j)) ((6 + j)) w9) := HL8.out.next hb9
  clear hb9
  obtain ⟨y0, y1, y2, y3, y4, y5, y6, y7⟩ := HL9.out.cells
  refine hK.out _ _ ⟨y0, y1, y4, y5, y7⟩ (fun hHeld => ?_)
  clear hK K y0 y1 y2 y3 y4 y5 y6 y7
  refine wpAnyH_take (i := 15) (oi := _) (v := _) (by simp only [List.getElem?_toArray, List.getElem?_cons_succ, List.getElem?_cons_zero]; rfl) (by kernel_rfl) (by kernel_rfl) (by kernel_rfl) (by exact fun _ _ _ h => h) (Or.inl ⟨by rfl, by intro w' hSw; (try dsimp only at hSw); first | (go_simp; done) | (go_simp; with_reducible rfl)⟩) hHeld ?_
  simp only [Act.put, List.setIfInBounds_toArray, List.set_cons_zero, List.set_cons_succ]
  refine wpAnyH_take (i := 16) (oi := _) (v := _) (by simp only [List.getElem?_toArray, List.getElem?_cons_succ, List.getElem?_cons_zero]; rfl) (by kernel_rfl) (by kernel_rfl) (by kernel_rfl) (by exact fun _ _ _ h => h) (Or.inl ⟨by rfl, by intro w' hSw; (try dsimp only at hSw); first | (go_simp; done) | (go_simp; with_reducible rfl)⟩) hHeld ?_
  simp only [Act.put, List.setIfInBounds_toArray, List.set_cons_zero, List.set_cons_succ]
  refine wpAnyH_take (i := 17) (oi := _) (v := _) (by simp only [List.getElem?_toArray, List.getElem?_cons_succ, List.getElem?_cons_zero]; rfl) (by kernel_rfl) (by kernel_rfl) (by kernel_rfl) (by exact fun _ _ _ h => h) (Or.inl ⟨by rfl, by intro w' hSw; (try dsimp only at hSw); first | (go_simp; done) | (go_simp; with_reducible rfl)⟩) hHeld ?_
  simp only [Act.put, List.setIfInBounds_toArray, List.set_cons_zero, List.set_cons_succ]
  refine wpAnyH_take (i := 18) (oi := _) (v := _) (by simp only [List.getElem?_toArray, List.getElem?_cons_succ, List.getElem?_cons_zero]; rfl) (by kernel_rfl) (by kernel_rfl) (by kernel_rfl) (by exact fun _ _ _ h => h) (Or.inl ⟨by rfl, by intro w' hSw; (try dsimp only at hSw); first | (go_simp; done) | (go_simp; with_reducible rfl)⟩) hHeld ?_
  simp only [Act.put, List.setIfInBounds_toArray, List.set_cons_zero, List.set_cons_succ]
  refine wpAnyH_take (i := 19) (oi := _) (v := _) (by simp only [List.getElem?_toArray, List.getElem?_cons_succ, List.getElem?_cons_zero]; rfl) (by kernel_rfl) (by kernel_rfl) (by kernel_rfl) (by exact fun _ _ _ h => h) (Or.inl ⟨by rfl, by intro w' hSw; (try dsimp only at hSw); first | (go_simp; done) | (go_simp; with_reducible rfl)⟩) hHeld ?_
  simp only [Act.put, List.setIfInBounds_toArray, List.set_cons_zero, List.set_cons_succ]
  refine wpAnyH_take (i := 20) (oi := _) (v := _) (by simp only [List.getElem?_toArray, List.getElem?_cons_succ, List.getElem?_cons_zero]; rfl) (by kernel_rfl) (by kernel_rfl) (by kernel_rfl) (by exact fun _ _ _ h => h) (Or.inl ⟨by rfl, by intro w' hSw; (try dsimp only at hSw); first | (go_simp; done) | (go_simp; with_reducible rfl)⟩) hHeld ?_
  simp only [Act.put, List.setIfInBounds_toArray, List.set_cons_zero, List.set_cons_succ]
  refine wpAnyH_take (i := 21) (oi := _) (v := _) (by simp only [List.getElem?_toArray, List.getElem?_cons_succ, List.getElem?_cons_zero]; rfl) (by kernel_rfl) (by kernel_rfl) (by kernel_rfl) (by exact fun _ _ _ h => h) (Or.inl ⟨by rfl, by intro w' hSw; (try dsimp only at hSw); first | (go_simp; done) | (go_simp; with_reducible rfl)⟩) hHeld ?_
  simp only [Act.put, List.setIfInBounds_toArray, List.set_cons_zero, List.set_cons_succ]
  refine wpAnyH_take (i := 22) (oi := _) (v := _) (by simp only [List.getElem?_toArray, List.getElem?_cons_succ, List.getElem?_cons_zero]; rfl) (by kernel_rfl) (by kernel_rfl) (by kernel_rfl) (by exact fun _ _ _ h => h) (Or.inl ⟨by rfl, by intro w' hSw; (try dsimp only at hSw); first | (go_simp; done) | (go_simp; with_reducible rfl)⟩) hHeld ?_
  simp only [Act.put, List.setIfInBounds_toArray, List.set_cons_zero, List.set_cons_succ]
  refine wpAnyH_take (i := 23) (oi := _) (v := _) (by simp only [List.getElem?_toArray, List.getElem?_cons_succ, List.getElem?_cons_zero]; rfl) (by kernel_rfl) (by kernel_rfl) (by kernel_rfl) (by exact fun _ _ _ h => h) (Or.inl ⟨by rfl, by intro w' hSw; (try dsimp only at hSw); first | (go_simp; done) | (go_simp; with_reducible rfl)⟩) hHeld ?_
  simp only [Act.put, List.setIfInBounds_toArray, List.set_cons_zero, List.set_cons_succ]
  refine wpAnyH_take (i := 24) (oi := _) (v := _) (by simp only [List.getElem?_toArray, List.getElem?_cons_succ, List.getElem?_cons_zero]; rfl) (by kernel_rfl) (by kernel_rfl) (by kernel_rfl) (by exact fun _ _ _ h => h) (Or.inl ⟨by rfl, by intro w' hSw; (try dsimp only at hSw); first | (go_simp; done) | (go_simp; with_reducible rfl)⟩) hHeld ?_
  simp only [Act.put, List.setIfInBounds_toArray, List.set_cons_zero, List.set_cons_succ]
  refine wpAnyH_take (i := 25) (oi := _) (v := _) (by simp only [List.getElem?_toArray, List.getElem?_cons_succ, List.getElem?_cons_zero]; rfl) (by kernel_rfl) (by kernel_rfl) (by kernel_rfl) (by exact fun _ _ _ h => h) (Or.inl ⟨by rfl, by intro w' hSw; (try dsimp only at hSw); first | (go_simp; done) | (go_simp; with_reducible rfl)⟩) hHeld ?_
  simp only [Act.put, List.setIfInBounds_toArray, List.set_cons_zero, List.set_cons_succ]
  refine wpAnyH_take (i := 26) (oi := _) (v := _) (by simp only [List.getElem?_toArray, List.getElem?_cons_succ, List.getElem?_cons_zero]; rfl) (by kernel_rfl) (by kernel_rfl) (by kernel_rfl) (by exact fun _ _ _ h => h) (Or.inl ⟨by rfl, by intro w' hSw; (try dsimp only at hSw); first | (go_simp; done) | (go_simp; with_reducible rfl)⟩) hHeld ?_
  simp only [Act.put, List.setIfInBounds_toArray, List.set_cons_zero, List.set_cons_succ]
  refine wpAnyH_take (i := 27) (oi := _) (v := _) (by simp only [List.getElem?_toArray, List.getElem?_cons_succ, List.getElem?_cons_zero]; rfl) (by kernel_rfl) (by kernel_rfl) (by kernel_rfl) (by exact fun _ _ _ h => h) (Or.inl ⟨by rfl, by intro w' hSw; (try dsimp only at hSw); first | (go_simp; done) | (go_simp; with_reducible rfl)⟩) hHeld ?_
  simp only [Act.put, List.setIfInBounds_toArray, List.set_cons_zero, List.set_cons_succ]
  refine wpAnyH_done (by kernel_rfl) ?_ _
  clear x0 x1 x2 x3 x4 x5 x6 x7
  obtain ⟨x0, x1, x2, x3, x4, x5, x6, x7⟩ := HL9.out.cells
  have hq : (6 + j + (s - (6 + j)) == s) = true := by rw [beq_iff_eq]; omega
  go_wp2_with fail
  refine (HBT.out _).mono ?_
  rintro r wz ⟨rfl, hb⟩
  have HLz : Hid (St w b c s j (1) ((1 + j)) ((2 + j)) ((6 + j)) wz) := HL9.out.next hb
  clear hb
  have hk : (0 : Int) < s - (6 + j) := by omega
  go_wp2
  go_ret
  exact ⟨rfl, HLz.out.below⟩

theorem places_low (s j f : Int) (w : World) (hf : f ≤ 9223372036854775807 ∧ -9223372036854775808 ≤ f) (hp : RightP s j) (h1 : f < 0) :
    Calls Try.prog 3 #[.int .i64 s, .int .i64 j, .int .i64 f] w fun r w' => r = .returned (.bool true) ∧ Below w.heap.size w w' := by
  have hplaces : Hid (∀ w, _) := fun w => refplaces_any s j w
  have hrr : Hid (∀ w, _) := fun w => refright_any s j w
  have hring : Hid (∀ w, _) := fun w => ring_any s j w
  have hino : Hid (∀ w, _) := fun w => inode_any s j f w
  have hdata : Hid (∀ w, _) := fun w => data_any s j w
  have hright : Hid (∀ w, _) := fun w => right_any s j w
  have hbits : Hid (∀ w, _) := fun w => bits_any s j w
  have HP : Hid (placesF s j = .agg #[.int .i64 1, .int .i64 (1 + j), .int .i64 (2 + j), .int .i64 (6 + j)]) := by exact if_pos hp
  have HR : Hid (decide (RightP s j) = true) := by exact decide_eq_true hp
  have HG : Hid (ringF s j = .tuple #[.int .i64 1, .int .i64 j]) := by show _ = _; unfold ringF; rw [if_pos hp, if_pos hp]
  have HI : Hid (inodeF s j f = .tuple #[.int .i64 0, .bool false]) := by exact if_neg (fun h => by have := h.2.1; omega)
  have HD : Hid (dataF s j = .tuple #[.int .i64 (6 + j), .int .i64 (s - (6 + j))]) := by exact if_pos hp
  have HT : Hid (bitsF s j = 1 + j) := by exact if_pos hp
  have hj : 8 ≤ j ∧ j ≤ 512 ∧ s ≤ 2048 ∧ 6 + j < s := hp
  obtain ⟨hj0, hj1, hj2, hj3⟩ := hj
  clear hp
  have HRG : Hid (∀ w, Calls Try.prog 10 #[.agg #[.int .i64 s, .int .i64 j]] w fun r w' => r = .returned (.bool true) ∧ Below w.heap.size w w') := fun w => by have h := hright.out w; rw [HR.out] at h; exact h
  have HBT : Hid (∀ w, Calls Try.prog 11 #[.agg #[.int .i64 s, .int .i64 j]] w fun r w' => r = .returned (.int .i64 (1 + j)) ∧ Below w.heap.size w w') := fun w => by have h := hbits.out w; rw [HT.out] at h; exact h
  clear hright hbits
  go_enter Try.func3, Try.ntmps3
  go_wp2_with fail
  refine (speaks_any _).mono ?_
  rintro r w1 ⟨rfl, hb1⟩
  obtain ⟨w2, hw2⟩ : ∃ w2, w2 = (w1.alloc (.cells #[.int .i64 s, .int .i64 j] 24)).alloc (.cells #[.int .i64 s, .int .i64 j] 25) := ⟨_, rfl⟩
  have HL2 : Hid (LayAt w1.heap.size s j w2) := by rw [hw2]; exact (lay_new w1 s j _).below ((Below.refl _ _).alloc (Nat.le_refl _) _)
  have HM2 : Hid (LayAt (w1.heap.size + 1) s j w2) := by
    rw [hw2]
    have := lay_new (w1.alloc (.cells #[.int .i64 s, .int .i64 j] 24)) s j 25
    rw [World.size_alloc] at this
    exact this
  have HB2 : Hid (Below w.heap.size w w2) := by rw [hw2]; exact (hb1.alloc hb1.size _).alloc (by have := hb1.size; simp; omega) _
  clear hb1
  generalize hb : w1.heap.size = b at *
  go_wp2_with fail
  first | rw [← hw2] | (rw [hb]; rw [← hw2])
  refine (hplaces.out _).mono ?_
  rintro r w3 ⟨rfl, hb3⟩
  rw [HP.out]
  have HL3 : Hid (St w b w3.heap.size s j (1) ((1 + j)) ((2 + j)) ((6 + j)) (w3.alloc (.cells #[.int .i64 1, .int .i64 (1 + j), .int .i64 (2 + j), .int .i64 (6 + j)] 26))) :=
    ⟨(HL2.out.below hb3).below ((Below.refl _ _).alloc (Nat.le_refl _) _), (HM2.out.below hb3).below ((Below.refl _ _).alloc (Nat.le_refl _) _), heap_alloc_new _ _, (HB2.out.trans (hb3.mono HB2.out.size)).alloc (by have := HB2.out.size; have := hb3.size; omega) _⟩
  obtain ⟨x0, x1, x2, x3, _⟩ := HL3.out.cells
  clear hb3 hw2 HL2 HM2 HB2 hplaces HP hb
  go_wp2_with fail
  refine (hrr.out _).mono ?_
  rintro r w4 ⟨rfl, hb4⟩
  rw [HR.out]
  have HL4 : Hid (St w b w3.heap.size s j (1) ((1 + j)) ((2 + j)) ((6 + j)) w4) := HL3.out.next hb4
  clear hb4 HL3 x0 x1 x2 x3 hrr
  generalize w3.heap.size = c at *
  obtain ⟨x0, x1, x2, x3, x4, x5, x6, x7⟩ := HL4.out.cells
  go_wp2_with fail
  refine (hring.out _).mono ?_
  rintro r w5 ⟨rfl, hb⟩
  rw [HG.out]
  have HL5 : Hid (St w b c s j (1) ((1 + j)) ((2 + j)) ((6 + j)) w5) := HL4.out.next hb
  clear hb HL4 x0 x1 x2 x3 x4 x5 x6 x7 hring
  obtain ⟨x0, x1, x2, x3, x4, x5, x6, x7⟩ := HL5.out.cells
  go_wp2_with fail
  refine (hino.out _).mono ?_
  rintro r w6 ⟨rfl, hb⟩
  rw [HI.out]
  have HL6 : Hid (St w b c s j (1) ((1 + j)) ((2 + j)) ((6 + j)) w6) := HL5.out.next hb
  clear hb HL5 x0 x1 x2 x3 x4 x5 x6 x7 hino
  obtain ⟨x0, x1, x2, x3, x4, x5, x6, x7⟩ := HL6.out.cells
  go_wp2_with fail
  refine (hdata.out _).mono ?_
  rintro r w7 ⟨rfl, hb⟩
  rw [HD.out]
  have HL7 : Hid (St w b c s j (1) ((1 + j)) ((2 + j)) ((6 + j)) w7) := HL6.out.next hb
  clear hb HL6 x0 x1 x2 x3 x4 x5 x6 x7 hdata
  obtain ⟨x0, x1, x2, x3, x4, x5, x6, x7⟩ := HL7.out.cells
  go_wp2_with fail
  refine wp_region_held_drew (S := fun W => W.cell? ⟨b, 0, none⟩ = some (.int .i64 s) ∧ W.cell? ⟨b, 1, none⟩ = some (.int .i64 j) ∧ W.cell? ⟨c, 0, none⟩ = some (.int .i64 1) ∧ W.cell? ⟨c, 1, none⟩ = some (.int .i64 (1 + j)) ∧ W.cell? ⟨c, 3, none⟩ = some (.int .i64 (6 + j))) (by kernel_rfl) (by exact ⟨x0, x1, x4, x5, x7⟩) (fun hHeld => ?_)
  change wpAnyH _ _ _ _ _ 28 (Array.replicate 28 false) _ _
  refine wpAnyH_take (i := 0) (oi := _) (v := _) (by simp only [List.getElem?_toArray, List.getElem?_cons_zero]; rfl) (by kernel_rfl) (by kernel_rfl) (by kernel_rfl) (by exact fun _ _ _ h => h) (Or.inl ⟨by rfl, by intro w' hSw; (try dsimp only at hSw); first | (go_simp; done) | (go_simp; with_reducible rfl)⟩) hHeld ?_
  simp only [Act.put, List.setIfInBounds_toArray, List.set_cons_zero, List.set_cons_succ]
  refine wpAnyH_take (i := 2) (oi := _) (v := _) (by simp only [List.getElem?_toArray, List.getElem?_cons_succ, List.getElem?_cons_zero]; rfl) (by kernel_rfl) (by kernel_rfl) (by kernel_rfl) (by exact fun _ _ _ h => h) (Or.inl ⟨by rfl, by intro w' hSw; (try dsimp only at hSw); first | (go_simp; done) | (go_simp; with_reducible rfl)⟩) hHeld ?_
  simp only [Act.put, List.setIfInBounds_toArray, List.set_cons_zero, List.set_cons_succ]
  refine wpAnyH_ready (rs := [1]) (by kernel_rfl) (by simp) ?_
  refine AllReadyH.cons rfl (fun K hK => ?_) AllReadyH.nil
  go_simp
  go_wp2_with fail
  refine (HRG.out _).mono ?_
  rintro r w8 ⟨rfl, hb8⟩
  have HL8 : Hid (St w b c s j (1) ((1 + j)) ((2 + j)) ((6 + j)) w8) := (HL7.out.next (W' := w7.drew) ((Below.refl _ _).drew)).next hb8
  clear hb8
  obtain ⟨y0, y1, y2, y3, y4, y5, y6, y7⟩ := HL8.out.cells
  refine hK.out _ _ ⟨y0, y1, y4, y5, y7⟩ (fun hHeld => ?_)
  clear hK K y0 y1 y2 y3 y4 y5 y6 y7
  refine wpAnyH_take (i := 3) (oi := _) (v := _) (by simp only [List.getElem?_toArray, List.getElem?_cons_succ, List.getElem?_cons_zero]; rfl) (by kernel_rfl) (by kernel_rfl) (by kernel_rfl) (by exact fun _ _ _ h => h) (Or.inl ⟨by rfl, by intro w' hSw; (try dsimp only at hSw); first | (go_simp; done) | (go_simp; with_reducible rfl)⟩) hHeld ?_
  simp only [Act.put, List.setIfInBounds_toArray, List.set_cons_zero, List.set_cons_succ]
  refine wpAnyH_take (i := 4) (oi := _) (v := _) (by simp only [List.getElem?_toArray, List.getElem?_cons_succ, List.getElem?_cons_zero]; rfl) (by kernel_rfl) (by kernel_rfl) (by kernel_rfl) (by exact fun _ _ _ h => h) (Or.inl ⟨by rfl, by intro w' hSw; (try dsimp only at hSw); first | (go_simp; done) | (go_simp; with_reducible rfl)⟩) hHeld ?_
  simp only [Act.put, List.setIfInBounds_toArray, List.set_cons_zero, List.set_cons_succ]
  refine wpAnyH_take (i := 5) (oi := _) (v := _) (by simp only [List.getElem?_toArray, List.getElem?_cons_succ, List.getElem?_cons_zero]; rfl) (by kernel_rfl) (by kernel_rfl) (by kernel_rfl) (by exact fun _ _ _ h => h) (Or.inl ⟨by rfl, by intro w' hSw; (try dsimp only at hSw); first | (go_simp; done) | (go_simp; with_reducible rfl)⟩) hHeld ?_
  simp only [Act.put, List.setIfInBounds_toArray, List.set_cons_zero, List.set_cons_succ]
  refine wpAnyH_take (i := 6) (oi := _) (v := _) (by simp only [List.getElem?_toArray, List.getElem?_cons_succ, List.getElem?_cons_zero]; rfl) (by kernel_rfl) (by kernel_rfl) (by kernel_rfl) (by exact fun _ _ _ h => h) (Or.inl ⟨by rfl, by intro w' hSw; (try dsimp only at hSw); first | (go_simp; done) | (go_simp; with_reducible rfl)⟩) hHeld ?_
  simp only [Act.put, List.setIfInBounds_toArray, List.set_cons_zero, List.set_cons_succ]
  refine wpAnyH_take (i := 7) (oi := _) (v := _) (by simp only [List.getElem?_toArray, List.getElem?_cons_succ, List.getElem?_cons_zero]; rfl) (by kernel_rfl) (by kernel_rfl) (by kernel_rfl) (by exact fun _ _ _ h => h) (Or.inl ⟨by rfl, by intro w' hSw; (try dsimp only at hSw); first | (go_simp; done) | (go_simp; with_reducible rfl)⟩) hHeld ?_
  simp only [Act.put, List.setIfInBounds_toArray, List.set_cons_zero, List.set_cons_succ]
  refine wpAnyH_take (i := 8) (oi := _) (v := _) (by simp only [List.getElem?_toArray, List.getElem?_cons_succ, List.getElem?_cons_zero]; rfl) (by kernel_rfl) (by kernel_rfl) (by kernel_rfl) (by exact fun _ _ _ h => h) (Or.inl ⟨by rfl, by intro w' hSw; (try dsimp only at hSw); first | (go_simp; done) | (go_simp; with_reducible rfl)⟩) hHeld ?_
  simp only [Act.put, List.setIfInBounds_toArray, List.set_cons_zero, List.set_cons_succ]
  refine wpAnyH_take (i := 9) (oi := _) (v := _) (by simp only [List.getElem?_toArray, List.getElem?_cons_succ, List.getElem?_cons_zero]; rfl) (by kernel_rfl) (by kernel_rfl) (by kernel_rfl) (by exact fun _ _ _ h => h) (Or.inl ⟨by rfl, by intro w' hSw; (try dsimp only at hSw); first | (go_simp; done) | (go_simp; with_reducible rfl)⟩) hHeld ?_
  simp only [Act.put, List.setIfInBounds_toArray, List.set_cons_zero, List.set_cons_succ]
  refine wpAnyH_take (i := 10) (oi := _) (v := _) (by simp only [List.getElem?_toArray, List.getElem?_cons_succ, List.getElem?_cons_zero]; rfl) (by kernel_rfl) (by kernel_rfl) (by kernel_rfl) (by exact fun _ _ _ h => h) (Or.inl ⟨by rfl, by intro w' hSw; (try dsimp only at hSw); first | (go_simp; done) | (go_simp; with_reducible rfl)⟩) hHeld ?_
  simp only [Act.put, List.setIfInBounds_toArray, List.set_cons_zero, List.set_cons_succ]
  refine wpAnyH_take (i := 11) (oi := _) (v := _) (by simp only [List.getElem?_toArray, List.getElem?_cons_succ, List.getElem?_cons_zero]; rfl) (by kernel_rfl) (by kernel_rfl) (by kernel_rfl) (by exact fun _ _ _ h => h) (Or.inl ⟨by rfl, by intro w' hSw; (try dsimp only at hSw); first | (go_simp; done) | (go_simp; with_reducible rfl)⟩) hHeld ?_
  simp only [Act.put, List.setIfInBounds_toArray, List.set_cons_zero, List.set_cons_succ]
  refine wpAnyH_take (i := 13) (oi := _) (v := _) (by simp only [List.getElem?_toArray, List.getElem?_cons_succ, List.getElem?_cons_zero]; rfl) (by kernel_rfl) (by kernel_rfl) (by kernel_rfl) (by exact fun _ _ _ h => h) (Or.inl ⟨by rfl, by intro w' hSw; (try dsimp only at hSw); first | (go_simp; done) | (go_simp; with_reducible rfl)⟩) hHeld ?_
  simp only [Act.put, List.setIfInBounds_toArray, List.set_cons_zero, List.set_cons_succ]
  refine wpAnyH_take (i := 14) (oi := _) (v := _) (by simp only [List.getElem?_toArray, List.getElem?_cons_succ, List.getElem?_cons_zero]; rfl) (by kernel_rfl) (by kernel_rfl) (by kernel_rfl) (by exact fun _ _ _ h => h) (Or.inl ⟨by rfl, by intro w' hSw; (try dsimp only at hSw); first | (go_simp; done) | (go_simp; with_reducible rfl)⟩) hHeld ?_
  simp only [Act.put, List.setIfInBounds_toArray, List.set_cons_zero, List.set_cons_succ]
  refine wpAnyH_ready (rs := [12]) (by kernel_rfl) (by simp) ?_
  refine AllReadyH.cons rfl (fun K hK => ?_) AllReadyH.nil
  go_simp
  go_wp2_with fail
  refine (HBT.out _).mono ?_
  rintro r w9 ⟨rfl, hb9⟩
  have HL9 : Hid (St w b c s j (1) ((1 + j)) ((2 + j)) ((6 + j)) w9) := HL8.out.next hb9
  clear hb9
  obtain ⟨y0, y1, y2, y3, y4, y5, y6, y7⟩ := HL9.out.cells
  refine hK.out _ _ ⟨y0, y1, y4, y5, y7⟩ (fun hHeld => ?_)
  clear hK K y0 y1 y2 y3 y4 y5 y6 y7
  refine wpAnyH_take (i := 15) (oi := _) (v := _) (by simp only [List.getElem?_toArray, List.getElem?_cons_succ, List.getElem?_cons_zero]; rfl) (by kernel_rfl) (by kernel_rfl) (by kernel_rfl) (by exact fun _ _ _ h => h) (Or.inl ⟨by rfl, by intro w' hSw; (try dsimp only at hSw); first | (go_simp; done) | (go_simp; with_reducible rfl)⟩) hHeld ?_
  simp only [Act.put, List.setIfInBounds_toArray, List.set_cons_zero, List.set_cons_succ]
  refine wpAnyH_take (i := 16) (oi := _) (v := _) (by simp only [List.getElem?_toArray, List.getElem?_cons_succ, List.getElem?_cons_zero]; rfl) (by kernel_rfl) (by kernel_rfl) (by kernel_rfl) (by exact fun _ _ _ h => h) (Or.inl ⟨by rfl, by intro w' hSw; (try dsimp only at hSw); first | (go_simp; done) | (go_simp; with_reducible rfl)⟩) hHeld ?_
  simp only [Act.put, List.setIfInBounds_toArray, List.set_cons_zero, List.set_cons_succ]
  refine wpAnyH_take (i := 17) (oi := _) (v := _) (by simp only [List.getElem?_toArray, List.getElem?_cons_succ, List.getElem?_cons_zero]; rfl) (by kernel_rfl) (by kernel_rfl) (by kernel_rfl) (by exact fun _ _ _ h => h) (Or.inl ⟨by rfl, by intro w' hSw; (try dsimp only at hSw); first | (go_simp; done) | (go_simp; with_reducible rfl)⟩) hHeld ?_
  simp only [Act.put, List.setIfInBounds_toArray, List.set_cons_zero, List.set_cons_succ]
  refine wpAnyH_take (i := 18) (oi := _) (v := _) (by simp only [List.getElem?_toArray, List.getElem?_cons_succ, List.getElem?_cons_zero]; rfl) (by kernel_rfl) (by kernel_rfl) (by kernel_rfl) (by exact fun _ _ _ h => h) (Or.inl ⟨by rfl, by intro w' hSw; (try dsimp only at hSw); first | (go_simp; done) | (go_simp; with_reducible rfl)⟩) hHeld ?_
  simp only [Act.put, List.setIfInBounds_toArray, List.set_cons_zero, List.set_cons_succ]
  refine wpAnyH_take (i := 19) (oi := _) (v := _) (by simp only [List.getElem?_toArray, List.getElem?_cons_succ, List.getElem?_cons_zero]; rfl) (by kernel_rfl) (by kernel_rfl) (by kernel_rfl) (by exact fun _ _ _ h => h) (Or.inl ⟨by rfl, by intro w' hSw; (try dsimp only at hSw); first | (go_simp; done) | (go_simp; with_reducible rfl)⟩) hHeld ?_
  simp only [Act.put, List.setIfInBounds_toArray, List.set_cons_zero, List.set_cons_succ]
  refine wpAnyH_take (i := 20) (oi := _) (v := _) (by simp only [List.getElem?_toArray, List.getElem?_cons_succ, List.getElem?_cons_zero]; rfl) (by kernel_rfl) (by kernel_rfl) (by kernel_rfl) (by exact fun _ _ _ h => h) (Or.inl ⟨by rfl, by intro w' hSw; (try dsimp only at hSw); first | (go_simp; done) | (go_simp; with_reducible rfl)⟩) hHeld ?_
  simp only [Act.put, List.setIfInBounds_toArray, List.set_cons_zero, List.set_cons_succ]
  refine wpAnyH_take (i := 21) (oi := _) (v := _) (by simp only [List.getElem?_toArray, List.getElem?_cons_succ, List.getElem?_cons_zero]; rfl) (by kernel_rfl) (by kernel_rfl) (by kernel_rfl) (by exact fun _ _ _ h => h) (Or.inl ⟨by rfl, by intro w' hSw; (try dsimp only at hSw); first | (go_simp; done) | (go_simp; with_reducible rfl)⟩) hHeld ?_
  simp only [Act.put, List.setIfInBounds_toArray, List.set_cons_zero, List.set_cons_succ]
  refine wpAnyH_take (i := 22) (oi := _) (v := _) (by simp only [List.getElem?_toArray, List.getElem?_cons_succ, List.getElem?_cons_zero]; rfl) (by kernel_rfl) (by kernel_rfl) (by kernel_rfl) (by exact fun _ _ _ h => h) (Or.inl ⟨by rfl, by intro w' hSw; (try dsimp only at hSw); first | (go_simp; done) | (go_simp; with_reducible rfl)⟩) hHeld ?_
  simp only [Act.put, List.setIfInBounds_toArray, List.set_cons_zero, List.set_cons_succ]
  refine wpAnyH_take (i := 23) (oi := _) (v := _) (by simp only [List.getElem?_toArray, List.getElem?_cons_succ, List.getElem?_cons_zero]; rfl) (by kernel_rfl) (by kernel_rfl) (by kernel_rfl) (by exact fun _ _ _ h => h) (Or.inl ⟨by rfl, by intro w' hSw; (try dsimp only at hSw); first | (go_simp; done) | (go_simp; with_reducible rfl)⟩) hHeld ?_
  simp only [Act.put, List.setIfInBounds_toArray, List.set_cons_zero, List.set_cons_succ]
  refine wpAnyH_take (i := 24) (oi := _) (v := _) (by simp only [List.getElem?_toArray, List.getElem?_cons_succ, List.getElem?_cons_zero]; rfl) (by kernel_rfl) (by kernel_rfl) (by kernel_rfl) (by exact fun _ _ _ h => h) (Or.inl ⟨by rfl, by intro w' hSw; (try dsimp only at hSw); first | (go_simp; done) | (go_simp; with_reducible rfl)⟩) hHeld ?_
  simp only [Act.put, List.setIfInBounds_toArray, List.set_cons_zero, List.set_cons_succ]
  refine wpAnyH_take (i := 25) (oi := _) (v := _) (by simp only [List.getElem?_toArray, List.getElem?_cons_succ, List.getElem?_cons_zero]; rfl) (by kernel_rfl) (by kernel_rfl) (by kernel_rfl) (by exact fun _ _ _ h => h) (Or.inl ⟨by rfl, by intro w' hSw; (try dsimp only at hSw); first | (go_simp; done) | (go_simp; with_reducible rfl)⟩) hHeld ?_
  simp only [Act.put, List.setIfInBounds_toArray, List.set_cons_zero, List.set_cons_succ]
  refine wpAnyH_take (i := 26) (oi := _) (v := _) (by simp only [List.getElem?_toArray, List.getElem?_cons_succ, List.getElem?_cons_zero]; rfl) (by kernel_rfl) (by kernel_rfl) (by kernel_rfl) (by exact fun _ _ _ h => h) (Or.inl ⟨by rfl, by intro w' hSw; (try dsimp only at hSw); first | (go_simp; done) | (go_simp; with_reducible rfl)⟩) hHeld ?_
  simp only [Act.put, List.setIfInBounds_toArray, List.set_cons_zero, List.set_cons_succ]
  refine wpAnyH_take (i := 27) (oi := _) (v := _) (by simp only [List.getElem?_toArray, List.getElem?_cons_succ, List.getElem?_cons_zero]; rfl) (by kernel_rfl) (by kernel_rfl) (by kernel_rfl) (by exact fun _ _ _ h => h) (Or.inl ⟨by rfl, by intro w' hSw; (try dsimp only at hSw); first | (go_simp; done) | (go_simp; with_reducible rfl)⟩) hHeld ?_
  simp only [Act.put, List.setIfInBounds_toArray, List.set_cons_zero, List.set_cons_succ]
  refine wpAnyH_done (by kernel_rfl) ?_ _
  clear x0 x1 x2 x3 x4 x5 x6 x7
  obtain ⟨x0, x1, x2, x3, x4, x5, x6, x7⟩ := HL9.out.cells
  have hq : (6 + j + (s - (6 + j)) == s) = true := by rw [beq_iff_eq]; omega
  go_wp2_with fail
  refine (HBT.out _).mono ?_
  rintro r wz ⟨rfl, hb⟩
  have HLz : Hid (St w b c s j (1) ((1 + j)) ((2 + j)) ((6 + j)) wz) := HL9.out.next hb
  clear hb
  have hk : (0 : Int) < s - (6 + j) := by omega
  go_wp2
  go_ret
  exact ⟨rfl, HLz.out.below⟩

theorem places_high (s j f : Int) (w : World) (hf : f ≤ 9223372036854775807 ∧ -9223372036854775808 ≤ f) (hp : RightP s j) (h0 : 0 ≤ f) (h1 : 4 ≤ f) :
    Calls Try.prog 3 #[.int .i64 s, .int .i64 j, .int .i64 f] w fun r w' => r = .returned (.bool true) ∧ Below w.heap.size w w' := by
  have hplaces : Hid (∀ w, _) := fun w => refplaces_any s j w
  have hrr : Hid (∀ w, _) := fun w => refright_any s j w
  have hring : Hid (∀ w, _) := fun w => ring_any s j w
  have hino : Hid (∀ w, _) := fun w => inode_any s j f w
  have hdata : Hid (∀ w, _) := fun w => data_any s j w
  have hright : Hid (∀ w, _) := fun w => right_any s j w
  have hbits : Hid (∀ w, _) := fun w => bits_any s j w
  have HP : Hid (placesF s j = .agg #[.int .i64 1, .int .i64 (1 + j), .int .i64 (2 + j), .int .i64 (6 + j)]) := by exact if_pos hp
  have HR : Hid (decide (RightP s j) = true) := by exact decide_eq_true hp
  have HG : Hid (ringF s j = .tuple #[.int .i64 1, .int .i64 j]) := by show _ = _; unfold ringF; rw [if_pos hp, if_pos hp]
  have HI : Hid (inodeF s j f = .tuple #[.int .i64 0, .bool false]) := by exact if_neg (fun h => by have := h.2.2; omega)
  have HD : Hid (dataF s j = .tuple #[.int .i64 (6 + j), .int .i64 (s - (6 + j))]) := by exact if_pos hp
  have HT : Hid (bitsF s j = 1 + j) := by exact if_pos hp
  have hj : 8 ≤ j ∧ j ≤ 512 ∧ s ≤ 2048 ∧ 6 + j < s := hp
  obtain ⟨hj0, hj1, hj2, hj3⟩ := hj
  clear hp
  have HRG : Hid (∀ w, Calls Try.prog 10 #[.agg #[.int .i64 s, .int .i64 j]] w fun r w' => r = .returned (.bool true) ∧ Below w.heap.size w w') := fun w => by have h := hright.out w; rw [HR.out] at h; exact h
  have HBT : Hid (∀ w, Calls Try.prog 11 #[.agg #[.int .i64 s, .int .i64 j]] w fun r w' => r = .returned (.int .i64 (1 + j)) ∧ Below w.heap.size w w') := fun w => by have h := hbits.out w; rw [HT.out] at h; exact h
  clear hright hbits
  go_enter Try.func3, Try.ntmps3
  go_wp2_with fail
  refine (speaks_any _).mono ?_
  rintro r w1 ⟨rfl, hb1⟩
  obtain ⟨w2, hw2⟩ : ∃ w2, w2 = (w1.alloc (.cells #[.int .i64 s, .int .i64 j] 24)).alloc (.cells #[.int .i64 s, .int .i64 j] 25) := ⟨_, rfl⟩
  have HL2 : Hid (LayAt w1.heap.size s j w2) := by rw [hw2]; exact (lay_new w1 s j _).below ((Below.refl _ _).alloc (Nat.le_refl _) _)
  have HM2 : Hid (LayAt (w1.heap.size + 1) s j w2) := by
    rw [hw2]
    have := lay_new (w1.alloc (.cells #[.int .i64 s, .int .i64 j] 24)) s j 25
    rw [World.size_alloc] at this
    exact this
  have HB2 : Hid (Below w.heap.size w w2) := by rw [hw2]; exact (hb1.alloc hb1.size _).alloc (by have := hb1.size; simp; omega) _
  clear hb1
  generalize hb : w1.heap.size = b at *
  go_wp2_with fail
  first | rw [← hw2] | (rw [hb]; rw [← hw2])
  refine (hplaces.out _).mono ?_
  rintro r w3 ⟨rfl, hb3⟩
  rw [HP.out]
  have HL3 : Hid (St w b w3.heap.size s j (1) ((1 + j)) ((2 + j)) ((6 + j)) (w3.alloc (.cells #[.int .i64 1, .int .i64 (1 + j), .int .i64 (2 + j), .int .i64 (6 + j)] 26))) :=
    ⟨(HL2.out.below hb3).below ((Below.refl _ _).alloc (Nat.le_refl _) _), (HM2.out.below hb3).below ((Below.refl _ _).alloc (Nat.le_refl _) _), heap_alloc_new _ _, (HB2.out.trans (hb3.mono HB2.out.size)).alloc (by have := HB2.out.size; have := hb3.size; omega) _⟩
  obtain ⟨x0, x1, x2, x3, _⟩ := HL3.out.cells
  clear hb3 hw2 HL2 HM2 HB2 hplaces HP hb
  go_wp2_with fail
  refine (hrr.out _).mono ?_
  rintro r w4 ⟨rfl, hb4⟩
  rw [HR.out]
  have HL4 : Hid (St w b w3.heap.size s j (1) ((1 + j)) ((2 + j)) ((6 + j)) w4) := HL3.out.next hb4
  clear hb4 HL3 x0 x1 x2 x3 hrr
  generalize w3.heap.size = c at *
  obtain ⟨x0, x1, x2, x3, x4, x5, x6, x7⟩ := HL4.out.cells
  go_wp2_with fail
  refine (hring.out _).mono ?_
  rintro r w5 ⟨rfl, hb⟩
  rw [HG.out]
  have HL5 : Hid (St w b c s j (1) ((1 + j)) ((2 + j)) ((6 + j)) w5) := HL4.out.next hb
  clear hb HL4 x0 x1 x2 x3 x4 x5 x6 x7 hring
  obtain ⟨x0, x1, x2, x3, x4, x5, x6, x7⟩ := HL5.out.cells
  go_wp2_with fail
  refine (hino.out _).mono ?_
  rintro r w6 ⟨rfl, hb⟩
  rw [HI.out]
  have HL6 : Hid (St w b c s j (1) ((1 + j)) ((2 + j)) ((6 + j)) w6) := HL5.out.next hb
  clear hb HL5 x0 x1 x2 x3 x4 x5 x6 x7 hino
  obtain ⟨x0, x1, x2, x3, x4, x5, x6, x7⟩ := HL6.out.cells
  go_wp2_with fail
  refine (hdata.out _).mono ?_
  rintro r w7 ⟨rfl, hb⟩
  rw [HD.out]
  have HL7 : Hid (St w b c s j (1) ((1 + j)) ((2 + j)) ((6 + j)) w7) := HL6.out.next hb
  clear hb HL6 x0 x1 x2 x3 x4 x5 x6 x7 hdata
  obtain ⟨x0, x1, x2, x3, x4, x5, x6, x7⟩ := HL7.out.cells
  go_wp2_with fail
  refine wp_region_held_drew (S := fun W => W.cell? ⟨b, 0, none⟩ = some (.int .i64 s) ∧ W.cell? ⟨b, 1, none⟩ = some (.int .i64 j) ∧ W.cell? ⟨c, 0, none⟩ = some (.int .i64 1) ∧ W.cell? ⟨c, 1, none⟩ = some (.int .i64 (1 + j)) ∧ W.cell? ⟨c, 3, none⟩ = some (.int .i64 (6 + j))) (by kernel_rfl) (by exact ⟨x0, x1, x4, x5, x7⟩) (fun hHeld => ?_)
  change wpAnyH _ _ _ _ _ 28 (Array.replicate 28 false) _ _
  refine wpAnyH_take (i := 0) (oi := _) (v := _) (by simp only [List.getElem?_toArray, List.getElem?_cons_zero]; rfl) (by kernel_rfl) (by kernel_rfl) (by kernel_rfl) (by exact fun _ _ _ h => h) (Or.inl ⟨by rfl, by intro w' hSw; (try dsimp only at hSw); first | (go_simp; done) | (go_simp; with_reducible rfl)⟩) hHeld ?_
  simp only [Act.put, List.setIfInBounds_toArray, List.set_cons_zero, List.set_cons_succ]
  refine wpAnyH_take (i := 2) (oi := _) (v := _) (by simp only [List.getElem?_toArray, List.getElem?_cons_succ, List.getElem?_cons_zero]; rfl) (by kernel_rfl) (by kernel_rfl) (by kernel_rfl) (by exact fun _ _ _ h => h) (Or.inl ⟨by rfl, by intro w' hSw; (try dsimp only at hSw); first | (go_simp; done) | (go_simp; with_reducible rfl)⟩) hHeld ?_
  simp only [Act.put, List.setIfInBounds_toArray, List.set_cons_zero, List.set_cons_succ]
  refine wpAnyH_ready (rs := [1]) (by kernel_rfl) (by simp) ?_
  refine AllReadyH.cons rfl (fun K hK => ?_) AllReadyH.nil
  go_simp
  go_wp2_with fail
  refine (HRG.out _).mono ?_
  rintro r w8 ⟨rfl, hb8⟩
  have HL8 : Hid (St w b c s j (1) ((1 + j)) ((2 + j)) ((6 + j)) w8) := (HL7.out.next (W' := w7.drew) ((Below.refl _ _).drew)).next hb8
  clear hb8
  obtain ⟨y0, y1, y2, y3, y4, y5, y6, y7⟩ := HL8.out.cells
  refine hK.out _ _ ⟨y0, y1, y4, y5, y7⟩ (fun hHeld => ?_)
  clear hK K y0 y1 y2 y3 y4 y5 y6 y7
  refine wpAnyH_take (i := 3) (oi := _) (v := _) (by simp only [List.getElem?_toArray, List.getElem?_cons_succ, List.getElem?_cons_zero]; rfl) (by kernel_rfl) (by kernel_rfl) (by kernel_rfl) (by exact fun _ _ _ h => h) (Or.inl ⟨by rfl, by intro w' hSw; (try dsimp only at hSw); first | (go_simp; done) | (go_simp; with_reducible rfl)⟩) hHeld ?_
  simp only [Act.put, List.setIfInBounds_toArray, List.set_cons_zero, List.set_cons_succ]
  refine wpAnyH_take (i := 4) (oi := _) (v := _) (by simp only [List.getElem?_toArray, List.getElem?_cons_succ, List.getElem?_cons_zero]; rfl) (by kernel_rfl) (by kernel_rfl) (by kernel_rfl) (by exact fun _ _ _ h => h) (Or.inl ⟨by rfl, by intro w' hSw; (try dsimp only at hSw); first | (go_simp; done) | (go_simp; with_reducible rfl)⟩) hHeld ?_
  simp only [Act.put, List.setIfInBounds_toArray, List.set_cons_zero, List.set_cons_succ]
  refine wpAnyH_take (i := 5) (oi := _) (v := _) (by simp only [List.getElem?_toArray, List.getElem?_cons_succ, List.getElem?_cons_zero]; rfl) (by kernel_rfl) (by kernel_rfl) (by kernel_rfl) (by exact fun _ _ _ h => h) (Or.inl ⟨by rfl, by intro w' hSw; (try dsimp only at hSw); first | (go_simp; done) | (go_simp; with_reducible rfl)⟩) hHeld ?_
  simp only [Act.put, List.setIfInBounds_toArray, List.set_cons_zero, List.set_cons_succ]
  refine wpAnyH_take (i := 6) (oi := _) (v := _) (by simp only [List.getElem?_toArray, List.getElem?_cons_succ, List.getElem?_cons_zero]; rfl) (by kernel_rfl) (by kernel_rfl) (by kernel_rfl) (by exact fun _ _ _ h => h) (Or.inl ⟨by rfl, by intro w' hSw; (try dsimp only at hSw); first | (go_simp; done) | (go_simp; with_reducible rfl)⟩) hHeld ?_
  simp only [Act.put, List.setIfInBounds_toArray, List.set_cons_zero, List.set_cons_succ]
  refine wpAnyH_take (i := 7) (oi := _) (v := _) (by simp only [List.getElem?_toArray, List.getElem?_cons_succ, List.getElem?_cons_zero]; rfl) (by kernel_rfl) (by kernel_rfl) (by kernel_rfl) (by exact fun _ _ _ h => h) (Or.inl ⟨by rfl, by intro w' hSw; (try dsimp only at hSw); first | (go_simp; done) | (go_simp; with_reducible rfl)⟩) hHeld ?_
  simp only [Act.put, List.setIfInBounds_toArray, List.set_cons_zero, List.set_cons_succ]
  refine wpAnyH_take (i := 8) (oi := _) (v := _) (by simp only [List.getElem?_toArray, List.getElem?_cons_succ, List.getElem?_cons_zero]; rfl) (by kernel_rfl) (by kernel_rfl) (by kernel_rfl) (by exact fun _ _ _ h => h) (Or.inl ⟨by rfl, by intro w' hSw; (try dsimp only at hSw); first | (go_simp; done) | (go_simp; with_reducible rfl)⟩) hHeld ?_
  simp only [Act.put, List.setIfInBounds_toArray, List.set_cons_zero, List.set_cons_succ]
  refine wpAnyH_take (i := 9) (oi := _) (v := _) (by simp only [List.getElem?_toArray, List.getElem?_cons_succ, List.getElem?_cons_zero]; rfl) (by kernel_rfl) (by kernel_rfl) (by kernel_rfl) (by exact fun _ _ _ h => h) (Or.inl ⟨by rfl, by intro w' hSw; (try dsimp only at hSw); first | (go_simp; done) | (go_simp; with_reducible rfl)⟩) hHeld ?_
  simp only [Act.put, List.setIfInBounds_toArray, List.set_cons_zero, List.set_cons_succ]
  refine wpAnyH_take (i := 10) (oi := _) (v := _) (by simp only [List.getElem?_toArray, List.getElem?_cons_succ, List.getElem?_cons_zero]; rfl) (by kernel_rfl) (by kernel_rfl) (by kernel_rfl) (by exact fun _ _ _ h => h) (Or.inl ⟨by rfl, by intro w' hSw; (try dsimp only at hSw); first | (go_simp; done) | (go_simp; with_reducible rfl)⟩) hHeld ?_
  simp only [Act.put, List.setIfInBounds_toArray, List.set_cons_zero, List.set_cons_succ]
  refine wpAnyH_take (i := 11) (oi := _) (v := _) (by simp only [List.getElem?_toArray, List.getElem?_cons_succ, List.getElem?_cons_zero]; rfl) (by kernel_rfl) (by kernel_rfl) (by kernel_rfl) (by exact fun _ _ _ h => h) (Or.inl ⟨by rfl, by intro w' hSw; (try dsimp only at hSw); first | (go_simp; done) | (go_simp; with_reducible rfl)⟩) hHeld ?_
  simp only [Act.put, List.setIfInBounds_toArray, List.set_cons_zero, List.set_cons_succ]
  refine wpAnyH_take (i := 13) (oi := _) (v := _) (by simp only [List.getElem?_toArray, List.getElem?_cons_succ, List.getElem?_cons_zero]; rfl) (by kernel_rfl) (by kernel_rfl) (by kernel_rfl) (by exact fun _ _ _ h => h) (Or.inl ⟨by rfl, by intro w' hSw; (try dsimp only at hSw); first | (go_simp; done) | (go_simp; with_reducible rfl)⟩) hHeld ?_
  simp only [Act.put, List.setIfInBounds_toArray, List.set_cons_zero, List.set_cons_succ]
  refine wpAnyH_take (i := 14) (oi := _) (v := _) (by simp only [List.getElem?_toArray, List.getElem?_cons_succ, List.getElem?_cons_zero]; rfl) (by kernel_rfl) (by kernel_rfl) (by kernel_rfl) (by exact fun _ _ _ h => h) (Or.inl ⟨by rfl, by intro w' hSw; (try dsimp only at hSw); first | (go_simp; done) | (go_simp; with_reducible rfl)⟩) hHeld ?_
  simp only [Act.put, List.setIfInBounds_toArray, List.set_cons_zero, List.set_cons_succ]
  refine wpAnyH_ready (rs := [12]) (by kernel_rfl) (by simp) ?_
  refine AllReadyH.cons rfl (fun K hK => ?_) AllReadyH.nil
  go_simp
  go_wp2_with fail
  refine (HBT.out _).mono ?_
  rintro r w9 ⟨rfl, hb9⟩
  have HL9 : Hid (St w b c s j (1) ((1 + j)) ((2 + j)) ((6 + j)) w9) := HL8.out.next hb9
  clear hb9
  obtain ⟨y0, y1, y2, y3, y4, y5, y6, y7⟩ := HL9.out.cells
  refine hK.out _ _ ⟨y0, y1, y4, y5, y7⟩ (fun hHeld => ?_)
  clear hK K y0 y1 y2 y3 y4 y5 y6 y7
  refine wpAnyH_take (i := 15) (oi := _) (v := _) (by simp only [List.getElem?_toArray, List.getElem?_cons_succ, List.getElem?_cons_zero]; rfl) (by kernel_rfl) (by kernel_rfl) (by kernel_rfl) (by exact fun _ _ _ h => h) (Or.inl ⟨by rfl, by intro w' hSw; (try dsimp only at hSw); first | (go_simp; done) | (go_simp; with_reducible rfl)⟩) hHeld ?_
  simp only [Act.put, List.setIfInBounds_toArray, List.set_cons_zero, List.set_cons_succ]
  refine wpAnyH_take (i := 16) (oi := _) (v := _) (by simp only [List.getElem?_toArray, List.getElem?_cons_succ, List.getElem?_cons_zero]; rfl) (by kernel_rfl) (by kernel_rfl) (by kernel_rfl) (by exact fun _ _ _ h => h) (Or.inl ⟨by rfl, by intro w' hSw; (try dsimp only at hSw); first | (go_simp; done) | (go_simp; with_reducible rfl)⟩) hHeld ?_
  simp only [Act.put, List.setIfInBounds_toArray, List.set_cons_zero, List.set_cons_succ]
  refine wpAnyH_take (i := 17) (oi := _) (v := _) (by simp only [List.getElem?_toArray, List.getElem?_cons_succ, List.getElem?_cons_zero]; rfl) (by kernel_rfl) (by kernel_rfl) (by kernel_rfl) (by exact fun _ _ _ h => h) (Or.inl ⟨by rfl, by intro w' hSw; (try dsimp only at hSw); first | (go_simp; done) | (go_simp; with_reducible rfl)⟩) hHeld ?_
  simp only [Act.put, List.setIfInBounds_toArray, List.set_cons_zero, List.set_cons_succ]
  refine wpAnyH_take (i := 18) (oi := _) (v := _) (by simp only [List.getElem?_toArray, List.getElem?_cons_succ, List.getElem?_cons_zero]; rfl) (by kernel_rfl) (by kernel_rfl) (by kernel_rfl) (by exact fun _ _ _ h => h) (Or.inl ⟨by rfl, by intro w' hSw; (try dsimp only at hSw); first | (go_simp; done) | (go_simp; with_reducible rfl)⟩) hHeld ?_
  simp only [Act.put, List.setIfInBounds_toArray, List.set_cons_zero, List.set_cons_succ]
  refine wpAnyH_take (i := 19) (oi := _) (v := _) (by simp only [List.getElem?_toArray, List.getElem?_cons_succ, List.getElem?_cons_zero]; rfl) (by kernel_rfl) (by kernel_rfl) (by kernel_rfl) (by exact fun _ _ _ h => h) (Or.inl ⟨by rfl, by intro w' hSw; (try dsimp only at hSw); first | (go_simp; done) | (go_simp; with_reducible rfl)⟩) hHeld ?_
  simp only [Act.put, List.setIfInBounds_toArray, List.set_cons_zero, List.set_cons_succ]
  refine wpAnyH_take (i := 20) (oi := _) (v := _) (by simp only [List.getElem?_toArray, List.getElem?_cons_succ, List.getElem?_cons_zero]; rfl) (by kernel_rfl) (by kernel_rfl) (by kernel_rfl) (by exact fun _ _ _ h => h) (Or.inl ⟨by rfl, by intro w' hSw; (try dsimp only at hSw); first | (go_simp; done) | (go_simp; with_reducible rfl)⟩) hHeld ?_
  simp only [Act.put, List.setIfInBounds_toArray, List.set_cons_zero, List.set_cons_succ]
  refine wpAnyH_take (i := 21) (oi := _) (v := _) (by simp only [List.getElem?_toArray, List.getElem?_cons_succ, List.getElem?_cons_zero]; rfl) (by kernel_rfl) (by kernel_rfl) (by kernel_rfl) (by exact fun _ _ _ h => h) (Or.inl ⟨by rfl, by intro w' hSw; (try dsimp only at hSw); first | (go_simp; done) | (go_simp; with_reducible rfl)⟩) hHeld ?_
  simp only [Act.put, List.setIfInBounds_toArray, List.set_cons_zero, List.set_cons_succ]
  refine wpAnyH_take (i := 22) (oi := _) (v := _) (by simp only [List.getElem?_toArray, List.getElem?_cons_succ, List.getElem?_cons_zero]; rfl) (by kernel_rfl) (by kernel_rfl) (by kernel_rfl) (by exact fun _ _ _ h => h) (Or.inl ⟨by rfl, by intro w' hSw; (try dsimp only at hSw); first | (go_simp; done) | (go_simp; with_reducible rfl)⟩) hHeld ?_
  simp only [Act.put, List.setIfInBounds_toArray, List.set_cons_zero, List.set_cons_succ]
  refine wpAnyH_take (i := 23) (oi := _) (v := _) (by simp only [List.getElem?_toArray, List.getElem?_cons_succ, List.getElem?_cons_zero]; rfl) (by kernel_rfl) (by kernel_rfl) (by kernel_rfl) (by exact fun _ _ _ h => h) (Or.inl ⟨by rfl, by intro w' hSw; (try dsimp only at hSw); first | (go_simp; done) | (go_simp; with_reducible rfl)⟩) hHeld ?_
  simp only [Act.put, List.setIfInBounds_toArray, List.set_cons_zero, List.set_cons_succ]
  refine wpAnyH_take (i := 24) (oi := _) (v := _) (by simp only [List.getElem?_toArray, List.getElem?_cons_succ, List.getElem?_cons_zero]; rfl) (by kernel_rfl) (by kernel_rfl) (by kernel_rfl) (by exact fun _ _ _ h => h) (Or.inl ⟨by rfl, by intro w' hSw; (try dsimp only at hSw); first | (go_simp; done) | (go_simp; with_reducible rfl)⟩) hHeld ?_
  simp only [Act.put, List.setIfInBounds_toArray, List.set_cons_zero, List.set_cons_succ]
  refine wpAnyH_take (i := 25) (oi := _) (v := _) (by simp only [List.getElem?_toArray, List.getElem?_cons_succ, List.getElem?_cons_zero]; rfl) (by kernel_rfl) (by kernel_rfl) (by kernel_rfl) (by exact fun _ _ _ h => h) (Or.inl ⟨by rfl, by intro w' hSw; (try dsimp only at hSw); first | (go_simp; done) | (go_simp; with_reducible rfl)⟩) hHeld ?_
  simp only [Act.put, List.setIfInBounds_toArray, List.set_cons_zero, List.set_cons_succ]
  refine wpAnyH_take (i := 26) (oi := _) (v := _) (by simp only [List.getElem?_toArray, List.getElem?_cons_succ, List.getElem?_cons_zero]; rfl) (by kernel_rfl) (by kernel_rfl) (by kernel_rfl) (by exact fun _ _ _ h => h) (Or.inl ⟨by rfl, by intro w' hSw; (try dsimp only at hSw); first | (go_simp; done) | (go_simp; with_reducible rfl)⟩) hHeld ?_
  simp only [Act.put, List.setIfInBounds_toArray, List.set_cons_zero, List.set_cons_succ]
  refine wpAnyH_take (i := 27) (oi := _) (v := _) (by simp only [List.getElem?_toArray, List.getElem?_cons_succ, List.getElem?_cons_zero]; rfl) (by kernel_rfl) (by kernel_rfl) (by kernel_rfl) (by exact fun _ _ _ h => h) (Or.inl ⟨by rfl, by intro w' hSw; (try dsimp only at hSw); first | (go_simp; done) | (go_simp; with_reducible rfl)⟩) hHeld ?_
  simp only [Act.put, List.setIfInBounds_toArray, List.set_cons_zero, List.set_cons_succ]
  refine wpAnyH_done (by kernel_rfl) ?_ _
  clear x0 x1 x2 x3 x4 x5 x6 x7
  obtain ⟨x0, x1, x2, x3, x4, x5, x6, x7⟩ := HL9.out.cells
  have hq : (6 + j + (s - (6 + j)) == s) = true := by rw [beq_iff_eq]; omega
  go_wp2_with fail
  refine (HBT.out _).mono ?_
  rintro r wz ⟨rfl, hb⟩
  have HLz : Hid (St w b c s j (1) ((1 + j)) ((2 + j)) ((6 + j)) wz) := HL9.out.next hb
  clear hb
  have hk : (0 : Int) < s - (6 + j) := by omega
  go_wp2
  go_ret
  exact ⟨rfl, HLz.out.below⟩

theorem places_no (s j f : Int) (w : World) (_hf : f ≤ 9223372036854775807 ∧ -9223372036854775808 ≤ f) (hp : ¬ RightP s j) :
    Calls Try.prog 3 #[.int .i64 s, .int .i64 j, .int .i64 f] w fun r w' => r = .returned (.bool true) ∧ Below w.heap.size w w' := by
  have hplaces : Hid (∀ w, _) := fun w => refplaces_any s j w
  have hrr : Hid (∀ w, _) := fun w => refright_any s j w
  have hring : Hid (∀ w, _) := fun w => ring_any s j w
  have hino : Hid (∀ w, _) := fun w => inode_any s j f w
  have hdata : Hid (∀ w, _) := fun w => data_any s j w
  have hright : Hid (∀ w, _) := fun w => right_any s j w
  have hbits : Hid (∀ w, _) := fun w => bits_any s j w
  have HP : Hid (placesF s j = .agg #[.int .i64 0, .int .i64 0, .int .i64 0, .int .i64 0]) := by exact if_neg hp
  have HR : Hid (decide (RightP s j) = false) := by exact decide_eq_false hp
  have HG : Hid (ringF s j = .tuple #[.int .i64 0, .int .i64 0]) := by show _ = _; unfold ringF; rw [if_neg hp, if_neg hp]
  have HI : Hid (inodeF s j f = .tuple #[.int .i64 0, .bool false]) := by exact if_neg (fun h => hp h.1)
  have HD : Hid (dataF s j = .tuple #[.int .i64 0, .int .i64 0]) := by exact if_neg hp
  have HT : Hid (bitsF s j = 0) := by exact if_neg hp
  clear hp
  have HRG : Hid (∀ w, Calls Try.prog 10 #[.agg #[.int .i64 s, .int .i64 j]] w fun r w' => r = .returned (.bool false) ∧ Below w.heap.size w w') := fun w => by have h := hright.out w; rw [HR.out] at h; exact h
  have HBT : Hid (∀ w, Calls Try.prog 11 #[.agg #[.int .i64 s, .int .i64 j]] w fun r w' => r = .returned (.int .i64 (0)) ∧ Below w.heap.size w w') := fun w => by have h := hbits.out w; rw [HT.out] at h; exact h
  clear hright hbits
  go_enter Try.func3, Try.ntmps3
  go_wp2_with fail
  refine (speaks_any _).mono ?_
  rintro r w1 ⟨rfl, hb1⟩
  obtain ⟨w2, hw2⟩ : ∃ w2, w2 = (w1.alloc (.cells #[.int .i64 s, .int .i64 j] 24)).alloc (.cells #[.int .i64 s, .int .i64 j] 25) := ⟨_, rfl⟩
  have HL2 : Hid (LayAt w1.heap.size s j w2) := by rw [hw2]; exact (lay_new w1 s j _).below ((Below.refl _ _).alloc (Nat.le_refl _) _)
  have HM2 : Hid (LayAt (w1.heap.size + 1) s j w2) := by
    rw [hw2]
    have := lay_new (w1.alloc (.cells #[.int .i64 s, .int .i64 j] 24)) s j 25
    rw [World.size_alloc] at this
    exact this
  have HB2 : Hid (Below w.heap.size w w2) := by rw [hw2]; exact (hb1.alloc hb1.size _).alloc (by have := hb1.size; simp; omega) _
  clear hb1
  generalize hb : w1.heap.size = b at *
  go_wp2_with fail
  first | rw [← hw2] | (rw [hb]; rw [← hw2])
  refine (hplaces.out _).mono ?_
  rintro r w3 ⟨rfl, hb3⟩
  rw [HP.out]
  have HL3 : Hid (St w b w3.heap.size s j (0) (0) (0) (0) (w3.alloc (.cells #[.int .i64 0, .int .i64 0, .int .i64 0, .int .i64 0] 26))) :=
    ⟨(HL2.out.below hb3).below ((Below.refl _ _).alloc (Nat.le_refl _) _), (HM2.out.below hb3).below ((Below.refl _ _).alloc (Nat.le_refl _) _), heap_alloc_new _ _, (HB2.out.trans (hb3.mono HB2.out.size)).alloc (by have := HB2.out.size; have := hb3.size; omega) _⟩
  obtain ⟨x0, x1, x2, x3, _⟩ := HL3.out.cells
  clear hb3 hw2 HL2 HM2 HB2 hplaces HP hb
  go_wp2_with fail
  refine (hrr.out _).mono ?_
  rintro r w4 ⟨rfl, hb4⟩
  rw [HR.out]
  have HL4 : Hid (St w b w3.heap.size s j (0) (0) (0) (0) w4) := HL3.out.next hb4
  clear hb4 HL3 x0 x1 x2 x3 hrr
  generalize w3.heap.size = c at *
  obtain ⟨x0, x1, x2, x3, x4, x5, x6, x7⟩ := HL4.out.cells
  go_wp2_with fail
  refine (hring.out _).mono ?_
  rintro r w5 ⟨rfl, hb⟩
  rw [HG.out]
  have HL5 : Hid (St w b c s j (0) (0) (0) (0) w5) := HL4.out.next hb
  clear hb HL4 x0 x1 x2 x3 x4 x5 x6 x7 hring
  obtain ⟨x0, x1, x2, x3, x4, x5, x6, x7⟩ := HL5.out.cells
  go_wp2_with fail
  refine (hino.out _).mono ?_
  rintro r w6 ⟨rfl, hb⟩
  rw [HI.out]
  have HL6 : Hid (St w b c s j (0) (0) (0) (0) w6) := HL5.out.next hb
  clear hb HL5 x0 x1 x2 x3 x4 x5 x6 x7 hino
  obtain ⟨x0, x1, x2, x3, x4, x5, x6, x7⟩ := HL6.out.cells
  go_wp2_with fail
  refine (hdata.out _).mono ?_
  rintro r w7 ⟨rfl, hb⟩
  rw [HD.out]
  have HL7 : Hid (St w b c s j (0) (0) (0) (0) w7) := HL6.out.next hb
  clear hb HL6 x0 x1 x2 x3 x4 x5 x6 x7 hdata
  obtain ⟨x0, x1, x2, x3, x4, x5, x6, x7⟩ := HL7.out.cells
  go_wp2_with fail
  refine wp_region_held_drew (S := fun W => W.cell? ⟨b, 0, none⟩ = some (.int .i64 s) ∧ W.cell? ⟨b, 1, none⟩ = some (.int .i64 j) ∧ W.cell? ⟨c, 0, none⟩ = some (.int .i64 0) ∧ W.cell? ⟨c, 1, none⟩ = some (.int .i64 0) ∧ W.cell? ⟨c, 3, none⟩ = some (.int .i64 0)) (by kernel_rfl) (by exact ⟨x0, x1, x4, x5, x7⟩) (fun hHeld => ?_)
  change wpAnyH _ _ _ _ _ 28 (Array.replicate 28 false) _ _
  refine wpAnyH_take (i := 0) (oi := _) (v := _) (by simp only [List.getElem?_toArray, List.getElem?_cons_zero]; rfl) (by kernel_rfl) (by kernel_rfl) (by kernel_rfl) (by exact fun _ _ _ h => h) (Or.inl ⟨by rfl, by intro w' hSw; (try dsimp only at hSw); first | (go_simp; done) | (go_simp; with_reducible rfl)⟩) hHeld ?_
  simp only [Act.put, List.setIfInBounds_toArray, List.set_cons_zero, List.set_cons_succ]
  refine wpAnyH_take (i := 2) (oi := _) (v := _) (by simp only [List.getElem?_toArray, List.getElem?_cons_succ, List.getElem?_cons_zero]; rfl) (by kernel_rfl) (by kernel_rfl) (by kernel_rfl) (by exact fun _ _ _ h => h) (Or.inl ⟨by rfl, by intro w' hSw; (try dsimp only at hSw); first | (go_simp; done) | (go_simp; with_reducible rfl)⟩) hHeld ?_
  simp only [Act.put, List.setIfInBounds_toArray, List.set_cons_zero, List.set_cons_succ]
  refine wpAnyH_ready (rs := [1]) (by kernel_rfl) (by simp) ?_
  refine AllReadyH.cons rfl (fun K hK => ?_) AllReadyH.nil
  go_simp
  go_wp2_with fail
  refine (HRG.out _).mono ?_
  rintro r w8 ⟨rfl, hb8⟩
  have HL8 : Hid (St w b c s j (0) (0) (0) (0) w8) := (HL7.out.next (W' := w7.drew) ((Below.refl _ _).drew)).next hb8
  clear hb8
  obtain ⟨y0, y1, y2, y3, y4, y5, y6, y7⟩ := HL8.out.cells
  refine hK.out _ _ ⟨y0, y1, y4, y5, y7⟩ (fun hHeld => ?_)
  clear hK K y0 y1 y2 y3 y4 y5 y6 y7
  refine wpAnyH_take (i := 3) (oi := _) (v := _) (by simp only [List.getElem?_toArray, List.getElem?_cons_succ, List.getElem?_cons_zero]; rfl) (by kernel_rfl) (by kernel_rfl) (by kernel_rfl) (by exact fun _ _ _ h => h) (Or.inl ⟨by rfl, by intro w' hSw; (try dsimp only at hSw); first | (go_simp; done) | (go_simp; with_reducible rfl)⟩) hHeld ?_
  simp only [Act.put, List.setIfInBounds_toArray, List.set_cons_zero, List.set_cons_succ]
  refine wpAnyH_take (i := 4) (oi := _) (v := _) (by simp only [List.getElem?_toArray, List.getElem?_cons_succ, List.getElem?_cons_zero]; rfl) (by kernel_rfl) (by kernel_rfl) (by kernel_rfl) (by exact fun _ _ _ h => h) (Or.inl ⟨by rfl, by intro w' hSw; (try dsimp only at hSw); first | (go_simp; done) | (go_simp; with_reducible rfl)⟩) hHeld ?_
  simp only [Act.put, List.setIfInBounds_toArray, List.set_cons_zero, List.set_cons_succ]
  refine wpAnyH_take (i := 5) (oi := _) (v := _) (by simp only [List.getElem?_toArray, List.getElem?_cons_succ, List.getElem?_cons_zero]; rfl) (by kernel_rfl) (by kernel_rfl) (by kernel_rfl) (by exact fun _ _ _ h => h) (Or.inl ⟨by rfl, by intro w' hSw; (try dsimp only at hSw); first | (go_simp; done) | (go_simp; with_reducible rfl)⟩) hHeld ?_
  simp only [Act.put, List.setIfInBounds_toArray, List.set_cons_zero, List.set_cons_succ]
  refine wpAnyH_take (i := 6) (oi := _) (v := _) (by simp only [List.getElem?_toArray, List.getElem?_cons_succ, List.getElem?_cons_zero]; rfl) (by kernel_rfl) (by kernel_rfl) (by kernel_rfl) (by exact fun _ _ _ h => h) (Or.inl ⟨by rfl, by intro w' hSw; (try dsimp only at hSw); first | (go_simp; done) | (go_simp; with_reducible rfl)⟩) hHeld ?_
  simp only [Act.put, List.setIfInBounds_toArray, List.set_cons_zero, List.set_cons_succ]
  refine wpAnyH_take (i := 7) (oi := _) (v := _) (by simp only [List.getElem?_toArray, List.getElem?_cons_succ, List.getElem?_cons_zero]; rfl) (by kernel_rfl) (by kernel_rfl) (by kernel_rfl) (by exact fun _ _ _ h => h) (Or.inl ⟨by rfl, by intro w' hSw; (try dsimp only at hSw); first | (go_simp; done) | (go_simp; with_reducible rfl)⟩) hHeld ?_
  simp only [Act.put, List.setIfInBounds_toArray, List.set_cons_zero, List.set_cons_succ]
  refine wpAnyH_take (i := 8) (oi := _) (v := _) (by simp only [List.getElem?_toArray, List.getElem?_cons_succ, List.getElem?_cons_zero]; rfl) (by kernel_rfl) (by kernel_rfl) (by kernel_rfl) (by exact fun _ _ _ h => h) (Or.inl ⟨by rfl, by intro w' hSw; (try dsimp only at hSw); first | (go_simp; done) | (go_simp; with_reducible rfl)⟩) hHeld ?_
  simp only [Act.put, List.setIfInBounds_toArray, List.set_cons_zero, List.set_cons_succ]
  refine wpAnyH_take (i := 9) (oi := _) (v := _) (by simp only [List.getElem?_toArray, List.getElem?_cons_succ, List.getElem?_cons_zero]; rfl) (by kernel_rfl) (by kernel_rfl) (by kernel_rfl) (by exact fun _ _ _ h => h) (Or.inl ⟨by rfl, by intro w' hSw; (try dsimp only at hSw); first | (go_simp; done) | (go_simp; with_reducible rfl)⟩) hHeld ?_
  simp only [Act.put, List.setIfInBounds_toArray, List.set_cons_zero, List.set_cons_succ]
  refine wpAnyH_take (i := 10) (oi := _) (v := _) (by simp only [List.getElem?_toArray, List.getElem?_cons_succ, List.getElem?_cons_zero]; rfl) (by kernel_rfl) (by kernel_rfl) (by kernel_rfl) (by exact fun _ _ _ h => h) (Or.inl ⟨by rfl, by intro w' hSw; (try dsimp only at hSw); first | (go_simp; done) | (go_simp; with_reducible rfl)⟩) hHeld ?_
  simp only [Act.put, List.setIfInBounds_toArray, List.set_cons_zero, List.set_cons_succ]
  refine wpAnyH_take (i := 11) (oi := _) (v := _) (by simp only [List.getElem?_toArray, List.getElem?_cons_succ, List.getElem?_cons_zero]; rfl) (by kernel_rfl) (by kernel_rfl) (by kernel_rfl) (by exact fun _ _ _ h => h) (Or.inl ⟨by rfl, by intro w' hSw; (try dsimp only at hSw); first | (go_simp; done) | (go_simp; with_reducible rfl)⟩) hHeld ?_
  simp only [Act.put, List.setIfInBounds_toArray, List.set_cons_zero, List.set_cons_succ]
  refine wpAnyH_take (i := 13) (oi := _) (v := _) (by simp only [List.getElem?_toArray, List.getElem?_cons_succ, List.getElem?_cons_zero]; rfl) (by kernel_rfl) (by kernel_rfl) (by kernel_rfl) (by exact fun _ _ _ h => h) (Or.inl ⟨by rfl, by intro w' hSw; (try dsimp only at hSw); first | (go_simp; done) | (go_simp; with_reducible rfl)⟩) hHeld ?_
  simp only [Act.put, List.setIfInBounds_toArray, List.set_cons_zero, List.set_cons_succ]
  refine wpAnyH_take (i := 14) (oi := _) (v := _) (by simp only [List.getElem?_toArray, List.getElem?_cons_succ, List.getElem?_cons_zero]; rfl) (by kernel_rfl) (by kernel_rfl) (by kernel_rfl) (by exact fun _ _ _ h => h) (Or.inl ⟨by rfl, by intro w' hSw; (try dsimp only at hSw); first | (go_simp; done) | (go_simp; with_reducible rfl)⟩) hHeld ?_
  simp only [Act.put, List.setIfInBounds_toArray, List.set_cons_zero, List.set_cons_succ]
  refine wpAnyH_ready (rs := [12]) (by kernel_rfl) (by simp) ?_
  refine AllReadyH.cons rfl (fun K hK => ?_) AllReadyH.nil
  go_simp
  go_wp2_with fail
  refine (HBT.out _).mono ?_
  rintro r w9 ⟨rfl, hb9⟩
  have HL9 : Hid (St w b c s j (0) (0) (0) (0) w9) := HL8.out.next hb9
  clear hb9
  obtain ⟨y0, y1, y2, y3, y4, y5, y6, y7⟩ := HL9.out.cells
  refine hK.out _ _ ⟨y0, y1, y4, y5, y7⟩ (fun hHeld => ?_)
  clear hK K y0 y1 y2 y3 y4 y5 y6 y7
  refine wpAnyH_take (i := 15) (oi := _) (v := _) (by simp only [List.getElem?_toArray, List.getElem?_cons_succ, List.getElem?_cons_zero]; rfl) (by kernel_rfl) (by kernel_rfl) (by kernel_rfl) (by exact fun _ _ _ h => h) (Or.inl ⟨by rfl, by intro w' hSw; (try dsimp only at hSw); first | (go_simp; done) | (go_simp; with_reducible rfl)⟩) hHeld ?_
  simp only [Act.put, List.setIfInBounds_toArray, List.set_cons_zero, List.set_cons_succ]
  refine wpAnyH_take (i := 16) (oi := _) (v := _) (by simp only [List.getElem?_toArray, List.getElem?_cons_succ, List.getElem?_cons_zero]; rfl) (by kernel_rfl) (by kernel_rfl) (by kernel_rfl) (by exact fun _ _ _ h => h) (Or.inl ⟨by rfl, by intro w' hSw; (try dsimp only at hSw); first | (go_simp; done) | (go_simp; with_reducible rfl)⟩) hHeld ?_
  simp only [Act.put, List.setIfInBounds_toArray, List.set_cons_zero, List.set_cons_succ]
  refine wpAnyH_take (i := 17) (oi := _) (v := _) (by simp only [List.getElem?_toArray, List.getElem?_cons_succ, List.getElem?_cons_zero]; rfl) (by kernel_rfl) (by kernel_rfl) (by kernel_rfl) (by exact fun _ _ _ h => h) (Or.inl ⟨by rfl, by intro w' hSw; (try dsimp only at hSw); first | (go_simp; done) | (go_simp; with_reducible rfl)⟩) hHeld ?_
  simp only [Act.put, List.setIfInBounds_toArray, List.set_cons_zero, List.set_cons_succ]
  refine wpAnyH_take (i := 18) (oi := _) (v := _) (by simp only [List.getElem?_toArray, List.getElem?_cons_succ, List.getElem?_cons_zero]; rfl) (by kernel_rfl) (by kernel_rfl) (by kernel_rfl) (by exact fun _ _ _ h => h) (Or.inl ⟨by rfl, by intro w' hSw; (try dsimp only at hSw); first | (go_simp; done) | (go_simp; with_reducible rfl)⟩) hHeld ?_
  simp only [Act.put, List.setIfInBounds_toArray, List.set_cons_zero, List.set_cons_succ]
  refine wpAnyH_take (i := 19) (oi := _) (v := _) (by simp only [List.getElem?_toArray, List.getElem?_cons_succ, List.getElem?_cons_zero]; rfl) (by kernel_rfl) (by kernel_rfl) (by kernel_rfl) (by exact fun _ _ _ h => h) (Or.inl ⟨by rfl, by intro w' hSw; (try dsimp only at hSw); first | (go_simp; done) | (go_simp; with_reducible rfl)⟩) hHeld ?_
  simp only [Act.put, List.setIfInBounds_toArray, List.set_cons_zero, List.set_cons_succ]
  refine wpAnyH_take (i := 20) (oi := _) (v := _) (by simp only [List.getElem?_toArray, List.getElem?_cons_succ, List.getElem?_cons_zero]; rfl) (by kernel_rfl) (by kernel_rfl) (by kernel_rfl) (by exact fun _ _ _ h => h) (Or.inl ⟨by rfl, by intro w' hSw; (try dsimp only at hSw); first | (go_simp; done) | (go_simp; with_reducible rfl)⟩) hHeld ?_
  simp only [Act.put, List.setIfInBounds_toArray, List.set_cons_zero, List.set_cons_succ]
  refine wpAnyH_take (i := 21) (oi := _) (v := _) (by simp only [List.getElem?_toArray, List.getElem?_cons_succ, List.getElem?_cons_zero]; rfl) (by kernel_rfl) (by kernel_rfl) (by kernel_rfl) (by exact fun _ _ _ h => h) (Or.inl ⟨by rfl, by intro w' hSw; (try dsimp only at hSw); first | (go_simp; done) | (go_simp; with_reducible rfl)⟩) hHeld ?_
  simp only [Act.put, List.setIfInBounds_toArray, List.set_cons_zero, List.set_cons_succ]
  refine wpAnyH_take (i := 22) (oi := _) (v := _) (by simp only [List.getElem?_toArray, List.getElem?_cons_succ, List.getElem?_cons_zero]; rfl) (by kernel_rfl) (by kernel_rfl) (by kernel_rfl) (by exact fun _ _ _ h => h) (Or.inl ⟨by rfl, by intro w' hSw; (try dsimp only at hSw); first | (go_simp; done) | (go_simp; with_reducible rfl)⟩) hHeld ?_
  simp only [Act.put, List.setIfInBounds_toArray, List.set_cons_zero, List.set_cons_succ]
  refine wpAnyH_take (i := 23) (oi := _) (v := _) (by simp only [List.getElem?_toArray, List.getElem?_cons_succ, List.getElem?_cons_zero]; rfl) (by kernel_rfl) (by kernel_rfl) (by kernel_rfl) (by exact fun _ _ _ h => h) (Or.inl ⟨by rfl, by intro w' hSw; (try dsimp only at hSw); first | (go_simp; done) | (go_simp; with_reducible rfl)⟩) hHeld ?_
  simp only [Act.put, List.setIfInBounds_toArray, List.set_cons_zero, List.set_cons_succ]
  refine wpAnyH_take (i := 24) (oi := _) (v := _) (by simp only [List.getElem?_toArray, List.getElem?_cons_succ, List.getElem?_cons_zero]; rfl) (by kernel_rfl) (by kernel_rfl) (by kernel_rfl) (by exact fun _ _ _ h => h) (Or.inl ⟨by rfl, by intro w' hSw; (try dsimp only at hSw); first | (go_simp; done) | (go_simp; with_reducible rfl)⟩) hHeld ?_
  simp only [Act.put, List.setIfInBounds_toArray, List.set_cons_zero, List.set_cons_succ]
  refine wpAnyH_take (i := 25) (oi := _) (v := _) (by simp only [List.getElem?_toArray, List.getElem?_cons_succ, List.getElem?_cons_zero]; rfl) (by kernel_rfl) (by kernel_rfl) (by kernel_rfl) (by exact fun _ _ _ h => h) (Or.inl ⟨by rfl, by intro w' hSw; (try dsimp only at hSw); first | (go_simp; done) | (go_simp; with_reducible rfl)⟩) hHeld ?_
  simp only [Act.put, List.setIfInBounds_toArray, List.set_cons_zero, List.set_cons_succ]
  refine wpAnyH_take (i := 26) (oi := _) (v := _) (by simp only [List.getElem?_toArray, List.getElem?_cons_succ, List.getElem?_cons_zero]; rfl) (by kernel_rfl) (by kernel_rfl) (by kernel_rfl) (by exact fun _ _ _ h => h) (Or.inl ⟨by rfl, by intro w' hSw; (try dsimp only at hSw); first | (go_simp; done) | (go_simp; with_reducible rfl)⟩) hHeld ?_
  simp only [Act.put, List.setIfInBounds_toArray, List.set_cons_zero, List.set_cons_succ]
  refine wpAnyH_take (i := 27) (oi := _) (v := _) (by simp only [List.getElem?_toArray, List.getElem?_cons_succ, List.getElem?_cons_zero]; rfl) (by kernel_rfl) (by kernel_rfl) (by kernel_rfl) (by exact fun _ _ _ h => h) (Or.inl ⟨by rfl, by intro w' hSw; (try dsimp only at hSw); first | (go_simp; done) | (go_simp; with_reducible rfl)⟩) hHeld ?_
  simp only [Act.put, List.setIfInBounds_toArray, List.set_cons_zero, List.set_cons_succ]
  refine wpAnyH_done (by kernel_rfl) ?_ _
  clear x0 x1 x2 x3 x4 x5 x6 x7
  obtain ⟨x0, x1, x2, x3, x4, x5, x6, x7⟩ := HL9.out.cells
  go_wp2
  go_ret
  exact ⟨rfl, HL9.out.below⟩

theorem superPlaces_calls (s j f : Int) (w : World) (_ : (Lit.int .i64 s).wf = true) (_ : (Lit.int .i64 j).wf = true) (h2 : (Lit.int .i64 f).wf = true) :
    Calls Try.prog 3 #[.int .i64 s, .int .i64 j, .int .i64 f] w fun r w' => r = .returned (.bool true) ∧ Below w.heap.size w w' := by
  simp only [Lit.wf, IntKind.min, IntKind.max, IntKind.signed, IntKind.bits, Bool.and_eq_true, decide_eq_true_eq, if_true] at h2
  have hf : f ≤ 9223372036854775807 ∧ -9223372036854775808 ≤ f := by omega
  by_cases hp : RightP s j
  · by_cases h1 : 0 ≤ f
    · by_cases h3 : f < 4
      · exact places_in s j f w hf hp h1 h3
      · exact places_high s j f w hf hp h1 (by omega)
    · exact places_low s j f w hf hp (by omega)
  · exact places_no s j f w hf hp

end Go.Proofs.Ytadimbpgdihjlaa.Su
