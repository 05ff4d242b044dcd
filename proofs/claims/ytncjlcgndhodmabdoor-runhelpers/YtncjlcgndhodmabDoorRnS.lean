/-
  Layer 20's step, an instruction of registers alone, a helper, an Exit. Condition: the registers are within layer 18's bounds, the page is short.
-/
import Derived.Test.YtncjlcgndhodmabDoorRnP
import Derived.Test.YtncjlcgndhodmabDoorRnR
import Derived.Test.YtncjlcgndhodmabDoorRnI
namespace Go.Proofs.YtncjlcgndhodmabDoor.Rn
open Go.ChangeShapes Go.WideShapes Go.ChangeAt Go.RowKit
open Go.Proofs.YtncjlcgndhodmabDoor.Cd
open Go.Proofs.YtncjlcgndhodmabDoor.Nv (lt_of_heap lt_of_cell cell_of_heap free_of_heap)

set_option maxRecDepth 100000
set_option maxHeartbeats 2000000

theorem step_reckon {w : World} {b sb : Nat} {pv ev lv : Value} {m : Mach} (h : MAt w b pv ev sb lv m) (l : List In4) (hp : InsAt w pv l) (k : Nat) (hk : m.at' = k) (hl : k < l.length) (hpx : RightP l[k]) (ho : l[k].op ≤ 6) (hr : Okr m) :
    Calls Tryd.prog 12 #[.pointer (some ⟨b, 0, none⟩)] w fun r w' => r = .returned (.bool (true)) ∧ MAt w' b pv ev sb lv (Mach.put { m with at' := m.at' + 1 } l[k].d.toNat (reckF l[k].op (m.r l[k].d.toNat) (m.r l[k].s.toNat) l[k].imm)) ∧ Own b w w' := by
  have hbl := h.lt
  obtain ⟨pg, po, cap, n, rfl, hn, hcap, hcm, hpl, a0, a1, a2, a3⟩ : ∃ pg po cap n, pv = .slice (some ⟨pg, po, none⟩) n cap ∧ k < n ∧ n ≤ cap ∧ cap ≤ 9223372036854775807 ∧ pg < w.heap.size ∧ w.cell? ⟨pg, po + k * 4, none⟩ = some (.int .i64 l[k].op) ∧ w.cell? ⟨pg, po + k * 4 + 1, none⟩ = some (.int .i64 l[k].d) ∧ w.cell? ⟨pg, po + k * 4 + 2, none⟩ = some (.int .i64 l[k].s) ∧ w.cell? ⟨pg, po + k * 4 + 3, none⟩ = some (.int .i64 l[k].imm) := by
    rcases hp with ⟨_, h0⟩ | ⟨g, off, cap, he, h1, h2, h3, h4⟩
    · rw [h0] at hl; cases hl
    · obtain ⟨e0, e1, e2, e3⟩ := h4 k hl
      exact ⟨g, off, cap, l.length, he, hl, h1, h2, h3, e0, e1, e2, e3⟩
  have hnI : (k : Int) < (n : Int) := by omega
  obtain ⟨dn, hdn⟩ : ∃ dn : Nat, l[k].d = dn := ⟨l[k].d.toNat, by have := hpx.2.1; omega⟩
  obtain ⟨sn, hsn⟩ : ∃ sn : Nat, l[k].s = sn := ⟨l[k].s.toNat, by have := hpx.2.2.1; omega⟩
  have hd : dn < 8 := by have := hpx.2.1; omega
  have hs : sn < 8 := by have := hpx.2.2.1; omega
  have hi : -2147483648 ≤ l[k].imm ∧ l[k].imm ≤ 2147483647 := hpx.imm
  have HRI : Hid (∀ w, Calls Tryd.prog 15 #[.agg #[.int .i64 l[k].op, .int .i64 l[k].d, .int .i64 l[k].s, .int .i64 l[k].imm]] w fun e w' => e = .returned (.bool true) ∧ Below w.heap.size w w') := fun w => by
    have := right_any l[k] w
    rw [decide_eq_true hpx] at this
    exact this
  have e7 : (l[k].op == 7) = false := beq_eq_false_iff_ne.2 (by omega)
  have e8 : (l[k].op == 8) = false := beq_eq_false_iff_ne.2 (by omega)
  have e9 : (l[k].op == 9) = false := beq_eq_false_iff_ne.2 (by omega)
  have e10 : (l[k].op == 10) = false := beq_eq_false_iff_ne.2 (by omega)
  have e11 : (l[k].op == 11) = false := beq_eq_false_iff_ne.2 (by omega)
  have e12 : (l[k].op == 12) = false := beq_eq_false_iff_ne.2 (by omega)
  have e13 : (l[k].op == 13) = false := beq_eq_false_iff_ne.2 (by omega)
  have e14 : (l[k].op == 14) = false := beq_eq_false_iff_ne.2 (by omega)
  have e15 : (l[k].op == 15) = false := beq_eq_false_iff_ne.2 (by omega)
  have e16 : (l[k].op == 16) = false := beq_eq_false_iff_ne.2 (by omega)
  have e17 : (l[k].op == 17) = false := beq_eq_false_iff_ne.2 (by omega)
  have e18 : (l[k].op == 18) = false := beq_eq_false_iff_ne.2 (by omega)
  have e19 : (l[k].op == 19) = false := beq_eq_false_iff_ne.2 (by omega)
  have e20 : (l[k].op == 20) = false := beq_eq_false_iff_ne.2 (by omega)
  clear ho
  rw [hdn] at HRI a1
  rw [hsn] at HRI a2
  try rw [hdn, hsn, Int.toNat_natCast, Int.toNat_natCast]
  clear hpx hp hdn hsn
  generalize l[k].op = op at *
  generalize l[k].imm = im at *
  clear hl l
  have HM : Hid (MAt w b (.slice (some ⟨pg, po, none⟩) n cap) ev sb lv m) := h
  have y0 := h.cProg
  have y29 := h.cAt
  rw [hk] at y29
  have HSL : Hid (∀ W, Below w.heap.size w W → W.cell? ⟨b, 0, none⟩ = some (.slice (some ⟨pg, po, none⟩) n cap) ∧ W.cell? ⟨b, 29, none⟩ = some (.int .i64 k) ∧ W.cell? ⟨pg, po + k * 4, none⟩ = some (.int .i64 op) ∧ W.cell? ⟨pg, po + k * 4 + 1, none⟩ = some (.int .i64 dn) ∧ W.cell? ⟨pg, po + k * 4 + 2, none⟩ = some (.int .i64 sn) ∧ W.cell? ⟨pg, po + k * 4 + 3, none⟩ = some (.int .i64 im)) := fun W hW =>
    ⟨(World.cell?_of_block (hW.block b hbl)).trans y0, (World.cell?_of_block (hW.block b hbl)).trans y29, (World.cell?_of_block (hW.block pg hpl)).trans a0, (World.cell?_of_block (hW.block pg hpl)).trans a1, (World.cell?_of_block (hW.block pg hpl)).trans a2, (World.cell?_of_block (hW.block pg hpl)).trans a3⟩
  clear h
  go_enter Tryd.func12, Tryd.ntmps12
  go_wp2_with fail
  refine wp_region_held_drew (S := fun W => W.cell? ⟨b, 0, none⟩ = some (.slice (some ⟨pg, po, none⟩) n cap) ∧ W.cell? ⟨b, 29, none⟩ = some (.int .i64 k) ∧ W.cell? ⟨pg, po + k * 4, none⟩ = some (.int .i64 op) ∧ W.cell? ⟨pg, po + k * 4 + 1, none⟩ = some (.int .i64 dn) ∧ W.cell? ⟨pg, po + k * 4 + 2, none⟩ = some (.int .i64 sn) ∧ W.cell? ⟨pg, po + k * 4 + 3, none⟩ = some (.int .i64 im)) (by kernel_rfl) (by exact ⟨y0, y29, a0, a1, a2, a3⟩) (fun hHeld => ?_)
  change wpAnyH _ _ _ _ _ 12 (Array.replicate 12 false) _ _
  refine wpAnyH_take (i := 0) (oi := _) (v := _) (by simp only [List.getElem?_toArray, List.getElem?_cons_zero]; rfl) (by kernel_rfl) (by kernel_rfl) (by kernel_rfl) (by exact fun _ _ _ h => h) (Or.inl ⟨by rfl, by intro w' hSw; (try dsimp only at hSw); first | (go_simp; done) | (go_simp; with_reducible rfl)⟩) hHeld ?_
  simp only [Act.put, List.setIfInBounds_toArray, List.set_cons_zero, List.set_cons_succ]
  refine wpAnyH_take (i := 1) (oi := _) (v := _) (by simp only [List.getElem?_toArray, List.getElem?_cons_succ, List.getElem?_cons_zero]; rfl) (by kernel_rfl) (by kernel_rfl) (by kernel_rfl) (by exact fun _ _ _ h => h) (Or.inl ⟨by rfl, by intro w' hSw; (try dsimp only at hSw); first | (go_simp; done) | (go_simp; with_reducible rfl)⟩) hHeld ?_
  simp only [Act.put, List.setIfInBounds_toArray, List.set_cons_zero, List.set_cons_succ]
  refine wpAnyH_take (i := 2) (oi := _) (v := _) (by simp only [List.getElem?_toArray, List.getElem?_cons_succ, List.getElem?_cons_zero]; rfl) (by kernel_rfl) (by kernel_rfl) (by kernel_rfl) (by exact fun _ _ _ h => h) (Or.inl ⟨by rfl, by intro w' hSw; (try dsimp only at hSw); first | (go_simp; done) | (go_simp; with_reducible rfl)⟩) hHeld ?_
  simp only [Act.put, List.setIfInBounds_toArray, List.set_cons_zero, List.set_cons_succ]
  refine wpAnyH_take (i := 3) (oi := _) (v := _) (by simp only [List.getElem?_toArray, List.getElem?_cons_succ, List.getElem?_cons_zero]; rfl) (by kernel_rfl) (by kernel_rfl) (by kernel_rfl) (by exact fun _ _ _ h => h) (Or.inl ⟨by rfl, by intro w' hSw; (try dsimp only at hSw); first | (go_simp; done) | (go_simp; with_reducible rfl)⟩) hHeld ?_
  simp only [Act.put, List.setIfInBounds_toArray, List.set_cons_zero, List.set_cons_succ]
  refine wpAnyH_take (i := 4) (oi := _) (v := _) (by simp only [List.getElem?_toArray, List.getElem?_cons_succ, List.getElem?_cons_zero]; rfl) (by kernel_rfl) (by kernel_rfl) (by kernel_rfl) (by exact fun _ _ _ h => h) (Or.inl ⟨by rfl, by intro w' hSw; (try dsimp only at hSw); first | (go_simp; done) | (go_simp; with_reducible rfl)⟩) hHeld ?_
  simp only [Act.put, List.setIfInBounds_toArray, List.set_cons_zero, List.set_cons_succ]
  refine wpAnyH_take (i := 5) (oi := _) (v := _) (by simp only [List.getElem?_toArray, List.getElem?_cons_succ, List.getElem?_cons_zero]; rfl) (by kernel_rfl) (by kernel_rfl) (by kernel_rfl) (by exact fun _ _ _ h => h) (Or.inl ⟨by rfl, by intro w' hSw; (try dsimp only at hSw); first | (go_simp; done) | (go_simp; with_reducible rfl)⟩) hHeld ?_
  simp only [Act.put, List.setIfInBounds_toArray, List.set_cons_zero, List.set_cons_succ]
  refine wpAnyH_take (i := 6) (oi := _) (v := _) (by simp only [List.getElem?_toArray, List.getElem?_cons_succ, List.getElem?_cons_zero]; rfl) (by kernel_rfl) (by kernel_rfl) (by kernel_rfl) (by exact fun _ _ _ h => h) (Or.inl ⟨by rfl, by intro w' hSw; (try dsimp only at hSw); first | (go_simp; done) | (go_simp; with_reducible rfl)⟩) hHeld ?_
  simp only [Act.put, List.setIfInBounds_toArray, List.set_cons_zero, List.set_cons_succ]
  refine wpAnyH_take (i := 7) (oi := _) (v := _) (by simp only [List.getElem?_toArray, List.getElem?_cons_succ, List.getElem?_cons_zero]; rfl) (by kernel_rfl) (by kernel_rfl) (by kernel_rfl) (by exact fun _ _ _ h => h) (Or.inl ⟨by rfl, by intro w' hSw; (try dsimp only at hSw); first | (go_simp; done) | (go_simp; with_reducible rfl)⟩) hHeld ?_
  simp only [Act.put, List.setIfInBounds_toArray, List.set_cons_zero, List.set_cons_succ]
  refine wpAnyH_take (i := 8) (oi := _) (v := _) (by simp only [List.getElem?_toArray, List.getElem?_cons_succ, List.getElem?_cons_zero]; rfl) (by kernel_rfl) (by kernel_rfl) (by kernel_rfl) (by exact fun _ _ _ h => h) (Or.inl ⟨by rfl, by intro w' hSw; (try dsimp only at hSw); first | (go_simp; done) | (go_simp; with_reducible rfl)⟩) hHeld ?_
  simp only [Act.put, List.setIfInBounds_toArray, List.set_cons_zero, List.set_cons_succ]
  refine wpAnyH_take (i := 9) (oi := _) (v := _) (by simp only [List.getElem?_toArray, List.getElem?_cons_succ, List.getElem?_cons_zero]; rfl) (by kernel_rfl) (by kernel_rfl) (by kernel_rfl) (by exact fun _ _ _ h => h) (Or.inl ⟨by rfl, by intro w' hSw; (try dsimp only at hSw); first | (go_simp; done) | (go_simp; with_reducible rfl)⟩) hHeld ?_
  simp only [Act.put, List.setIfInBounds_toArray, List.set_cons_zero, List.set_cons_succ]
  refine wpAnyH_ready (rs := [10]) (by kernel_rfl) (by simp) ?_
  refine AllReadyH.cons rfl (fun K hK => ?_) AllReadyH.nil
  go_simp
  obtain ⟨z1, hz1⟩ : ∃ z1, z1 = (World.alloc w (Obj.cells #[.int .i64 0, .int .i64 0, .int .i64 0, .int .i64 0] 44)).drew := ⟨_, rfl⟩
  have HB1 : Hid (Below w.heap.size w z1) := by rw [hz1]; exact ((Below.refl _ _).alloc (Nat.le_refl _) _).drew
  have HX1 : Hid (z1.heap[w.heap.size]? = some (.cells #[.int .i64 0, .int .i64 0, .int .i64 0, .int .i64 0] 44 (0, 0))) := by rw [hz1]; exact heap_alloc_new w _
  rw [← hz1]
  refine hK.out _ _ (HSL.out _ HB1.out) (fun hHeld => ?_)
  clear hK K hz1
  refine wpAnyH_ready (rs := [11]) (by kernel_rfl) (by simp) ?_
  refine AllReadyH.cons rfl (fun K hK => ?_) AllReadyH.nil
  have t0 := cell_of_heap HX1.out 0 _ rfl
  have t1 := cell_of_heap HX1.out 1 _ rfl
  have t2 := cell_of_heap HX1.out 2 _ rfl
  have t3 := cell_of_heap HX1.out 3 _ rfl
  have g0 := free_of_heap HX1.out 0
  have g1 := free_of_heap HX1.out 1
  have g2 := free_of_heap HX1.out 2
  have g3 := free_of_heap HX1.out 3
  go_simp
  obtain ⟨z2, hz2⟩ : ∃ z2, z2 = put4 z1 w.heap.size (.int .i64 op) (.int .i64 dn) (.int .i64 sn) (.int .i64 im) := ⟨_, rfl⟩
  have HB2 : Hid (Below w.heap.size w z2) := by rw [hz2]; exact put4_below HB1.out _ (Nat.le_refl _) _ _ _ _
  have HX2 : Hid (z2.heap[w.heap.size]? = some (.cells #[.int .i64 op, .int .i64 dn, .int .i64 sn, .int .i64 im] 44 (0, 0))) := by rw [hz2]; exact put4_heap HX1.out _ _ _ _
  refine hK.out _ _ (HSL.out _ (by rw [hz2] at HB2; exact HB2.out)) (fun hHeld => ?_)
  clear hK K t0 t1 t2 t3 g0 g1 g2 g3
  refine wpAnyH_done (by kernel_rfl) ?_ _
  rw [show (((z1.setCell ⟨w.heap.size, 0, none⟩ (.int .i64 op)).setCell ⟨w.heap.size, 1, none⟩ (.int .i64 dn)).setCell ⟨w.heap.size, 2, none⟩ (.int .i64 sn)).setCell ⟨w.heap.size, 3, none⟩ (.int .i64 im) = z2 from hz2.symm]
  clear hHeld y0 y29 a0 a1 a2 a3 hz2 HX1 HB1
  have x0 := cell_of_heap HX2.out 0 _ rfl
  have x1 := cell_of_heap HX2.out 1 _ rfl
  have x2 := cell_of_heap HX2.out 2 _ rfl
  have x3 := cell_of_heap HX2.out 3 _ rfl
  go_wp2_with fail
  refine (HRI.out _).mono ?_
  rintro r z3 ⟨rfl, hb3⟩
  have HB3 : Hid (Below w.heap.size w z3) := HB2.out.trans (hb3.mono HB2.out.size)
  have HX3 : Hid (z3.heap[w.heap.size]? = some (.cells #[.int .i64 op, .int .i64 dn, .int .i64 sn, .int .i64 im] 44 (0, 0))) := (hb3.block _ (lt_of_heap HX2.out)).trans HX2.out
  have HM3 : Hid (MAt z3 b (.slice (some ⟨pg, po, none⟩) n cap) ev sb lv m) := HM.out.below HB3.out
  clear hb3 x0 x1 x2 x3 HB2 HX2 HRI
  have x0 := cell_of_heap HX3.out 0 _ rfl
  have x1 := cell_of_heap HX3.out 1 _ rfl
  have x2 := cell_of_heap HX3.out 2 _ rfl
  have x3 := cell_of_heap HX3.out 3 _ rfl
  have y29 := HM3.out.cAt
  rw [hk] at y29
  have g29 := HM3.out.free 29
  have hkw : IntKind.i64.wrap ((k : Int) + 1) = (k : Int) + 1 := IntWalk.i64_in _ (by omega)
  have hne : w.heap.size ≠ b := by omega
  obtain ⟨z4, hz4⟩ : ∃ z4, z4 = z3.setCell ⟨b, 29, none⟩ (.int .i64 ((k : Int) + 1)) := ⟨_, rfl⟩
  have HM4 : Hid (MAt z4 b (.slice (some ⟨pg, po, none⟩) n cap) ev sb lv { m with at' := m.at' + 1 }) := by rw [hz4, hk]; exact HM3.out.sAt _
  have HO4 : Hid (Own b w z4) := by rw [hz4]; exact (Own.of_below HB3.out).trans (Own.set _ _ _ _)
  have HX4 : Hid (z4.heap[w.heap.size]? = some (.cells #[.int .i64 op, .int .i64 dn, .int .i64 sn, .int .i64 im] 44 (0, 0))) := by rw [hz4]; exact (heap_setCell_other z3 ⟨b, 29, none⟩ w.heap.size _ hne).trans HX3.out
  have v0 := cell_of_heap HX4.out 0 _ rfl
  have v1 := cell_of_heap HX4.out 1 _ rfl
  have v2 := cell_of_heap HX4.out 2 _ rfl
  have v3 := cell_of_heap HX4.out 3 _ rfl
  have hzs : w.heap.size < z4.heap.size := lt_of_heap HX4.out
  have hdI : (dn : Int) < 8 := by omega
  have HX : Hid (∀ W, Below z4.heap.size z4 W → W.cell? ⟨w.heap.size, 0, none⟩ = some (.int .i64 op) ∧ W.cell? ⟨w.heap.size, 1, none⟩ = some (.int .i64 dn) ∧ W.cell? ⟨w.heap.size, 2, none⟩ = some (.int .i64 sn) ∧ W.cell? ⟨w.heap.size, 3, none⟩ = some (.int .i64 im)) := fun W hW => ⟨(World.cell?_of_block (hW.block _ hzs)).trans v0, (World.cell?_of_block (hW.block _ hzs)).trans v1, (World.cell?_of_block (hW.block _ hzs)).trans v2, (World.cell?_of_block (hW.block _ hzs)).trans v3⟩
  clear HB3 HX3 HM3
  go_wp2_with fail
  rw [← hz4]
  clear hz4 x0 x1 x2 x3 y29 g29
  refine wp_region_held_drew (S := fun W => W.cell? ⟨w.heap.size, 0, none⟩ = some (.int .i64 op) ∧ W.cell? ⟨w.heap.size, 1, none⟩ = some (.int .i64 dn) ∧ W.cell? ⟨w.heap.size, 2, none⟩ = some (.int .i64 sn) ∧ W.cell? ⟨w.heap.size, 3, none⟩ = some (.int .i64 im)) (by kernel_rfl) (by exact ⟨v0, v1, v2, v3⟩) (fun hHeld => ?_)
  change wpAnyH _ _ _ _ _ 10 (Array.replicate 10 false) _ _
  refine wpAnyH_take (i := 0) (oi := _) (v := _) (by simp only [List.getElem?_toArray, List.getElem?_cons_zero]; rfl) (by kernel_rfl) (by kernel_rfl) (by kernel_rfl) (by exact fun _ _ _ h => h) (Or.inl ⟨by rfl, by intro w' hSw; (try dsimp only at hSw); first | (go_simp; done) | (go_simp; with_reducible rfl)⟩) hHeld ?_
  simp only [Act.put, List.setIfInBounds_toArray, List.set_cons_zero, List.set_cons_succ]
  refine wpAnyH_take (i := 1) (oi := _) (v := _) (by simp only [List.getElem?_toArray, List.getElem?_cons_succ, List.getElem?_cons_zero]; rfl) (by kernel_rfl) (by kernel_rfl) (by kernel_rfl) (by exact fun _ _ _ h => h) (Or.inl ⟨by rfl, by intro w' hSw; (try dsimp only at hSw); first | (go_simp; done) | (go_simp; with_reducible rfl)⟩) hHeld ?_
  simp only [Act.put, List.setIfInBounds_toArray, List.set_cons_zero, List.set_cons_succ]
  refine wpAnyH_take (i := 2) (oi := _) (v := _) (by simp only [List.getElem?_toArray, List.getElem?_cons_succ, List.getElem?_cons_zero]; rfl) (by kernel_rfl) (by kernel_rfl) (by kernel_rfl) (by exact fun _ _ _ h => h) (Or.inl ⟨by rfl, by intro w' hSw; (try dsimp only at hSw); first | (go_simp; done) | (go_simp; with_reducible rfl)⟩) hHeld ?_
  simp only [Act.put, List.setIfInBounds_toArray, List.set_cons_zero, List.set_cons_succ]
  refine wpAnyH_take (i := 3) (oi := _) (v := _) (by simp only [List.getElem?_toArray, List.getElem?_cons_succ, List.getElem?_cons_zero]; rfl) (by kernel_rfl) (by kernel_rfl) (by kernel_rfl) (by exact fun _ _ _ h => h) (Or.inl ⟨by rfl, by intro w' hSw; (try dsimp only at hSw); first | (go_simp; done) | (go_simp; with_reducible rfl)⟩) hHeld ?_
  simp only [Act.put, List.setIfInBounds_toArray, List.set_cons_zero, List.set_cons_succ]
  refine wpAnyH_take (i := 4) (oi := _) (v := _) (by simp only [List.getElem?_toArray, List.getElem?_cons_succ, List.getElem?_cons_zero]; rfl) (by kernel_rfl) (by kernel_rfl) (by kernel_rfl) (by exact fun _ _ _ h => h) (Or.inl ⟨by rfl, by intro w' hSw; (try dsimp only at hSw); first | (go_simp; done) | (go_simp; with_reducible rfl)⟩) hHeld ?_
  simp only [Act.put, List.setIfInBounds_toArray, List.set_cons_zero, List.set_cons_succ]
  refine wpAnyH_take (i := 6) (oi := _) (v := _) (by simp only [List.getElem?_toArray, List.getElem?_cons_succ, List.getElem?_cons_zero]; rfl) (by kernel_rfl) (by kernel_rfl) (by kernel_rfl) (by exact fun _ _ _ h => h) (Or.inl ⟨by rfl, by intro w' hSw; (try dsimp only at hSw); first | (go_simp; done) | (go_simp; with_reducible rfl)⟩) hHeld ?_
  simp only [Act.put, List.setIfInBounds_toArray, List.set_cons_zero, List.set_cons_succ]
  refine wpAnyH_take (i := 7) (oi := _) (v := _) (by simp only [List.getElem?_toArray, List.getElem?_cons_succ, List.getElem?_cons_zero]; rfl) (by kernel_rfl) (by kernel_rfl) (by kernel_rfl) (by exact fun _ _ _ h => h) (Or.inl ⟨by rfl, by intro w' hSw; (try dsimp only at hSw); first | (go_simp; done) | (go_simp; with_reducible rfl)⟩) hHeld ?_
  simp only [Act.put, List.setIfInBounds_toArray, List.set_cons_zero, List.set_cons_succ]
  refine wpAnyH_ready (rs := [5]) (by kernel_rfl) (by simp) ?_
  refine AllReadyH.cons rfl (fun K hK => ?_) AllReadyH.nil
  go_simp
  go_wp2_with fail
  refine (reckon_any (HM4.out.kept (w' := z4.drew) rfl) op im dn sn hd hs hr hi).mono ?_
  rintro r z5 ⟨rfl, hb5⟩
  have HB5 : Hid (Below z4.heap.size z4 z5) := (Below.refl z4.heap.size z4).drew.trans hb5
  have HM5 := HM4.out.below HB5.out
  refine hK.out _ _ (HX.out _ HB5.out) (fun hHeld => ?_)
  clear hK K hb5
  refine wpAnyH_take (i := 8) (oi := _) (v := _) (by simp only [List.getElem?_toArray, List.getElem?_cons_succ, List.getElem?_cons_zero]; rfl) (by kernel_rfl) (by kernel_rfl) (by kernel_rfl) (by exact fun _ _ _ h => h) (Or.inl ⟨by rfl, by intro w' hSw; (try dsimp only at hSw); first | (go_simp; done) | (go_simp; with_reducible rfl)⟩) hHeld ?_
  simp only [Act.put, List.setIfInBounds_toArray, List.set_cons_zero, List.set_cons_succ]
  refine wpAnyH_ready (rs := [9]) (by kernel_rfl) (by simp) ?_
  refine AllReadyH.cons rfl (fun K hK => ?_) AllReadyH.nil
  have u0 := HM5.cReg dn hd
  have g0 := HM5.free (21 + dn)
  go_simp
  have HM6 : Hid (MAt (z5.setCell ⟨b, 21 + dn, none⟩ (.int .i64 (reckF op (m.r dn) (m.r sn) im))) b (.slice (some ⟨pg, po, none⟩) n cap) ev sb lv (Mach.put { m with at' := m.at' + 1 } dn (reckF op (m.r dn) (m.r sn) im))) := HM5.sReg dn hd _
  have HO6 : Hid (Own b w (z5.setCell ⟨b, 21 + dn, none⟩ (.int .i64 (reckF op (m.r dn) (m.r sn) im)))) := (HO4.out.trans (Own.of_below HB5.out)).trans (Own.set _ _ _ _)
  refine hK.out _ _ ?_ (fun hHeld => ?_)
  · have hx := HX.out _ HB5.out
    exact ⟨(World.cell?_setCell_other _ _ _ _ (by intro h; simp only [Addr.mk.injEq] at h; omega)).trans hx.1, (World.cell?_setCell_other _ _ _ _ (by intro h; simp only [Addr.mk.injEq] at h; omega)).trans hx.2.1, (World.cell?_setCell_other _ _ _ _ (by intro h; simp only [Addr.mk.injEq] at h; omega)).trans hx.2.2.1, (World.cell?_setCell_other _ _ _ _ (by intro h; simp only [Addr.mk.injEq] at h; omega)).trans hx.2.2.2⟩
  clear hK K u0 g0
  refine wpAnyH_done (by kernel_rfl) ?_ _
  clear hHeld
  go_wp2
  go_ret
  exact ⟨rfl, HM6.out, HO6.out⟩

theorem step_call {w : World} {b sb : Nat} {pv ev lv : Value} {m : Mach} (h : MAt w b pv ev sb lv m) (l : List In4) (hp : InsAt w pv l) (k : Nat) (hk : m.at' = k) (hl : k < l.length) (hpx : RightP l[k]) (ho : l[k].op = 19) (hpg : m.page.size ≤ 1000000) (hr3 : m.r 3 ≤ 9223372036854775807) :
    Calls Tryd.prog 12 #[.pointer (some ⟨b, 0, none⟩)] w fun r w' => r = .returned (.bool ((helpF l[k].imm { m with at' := m.at' + 1 }).1)) ∧ MAt w' b pv ev sb lv ((helpF l[k].imm { m with at' := m.at' + 1 }).2) ∧ Own b w w' := by
  have hbl := h.lt
  obtain ⟨pg, po, cap, n, rfl, hn, hcap, hcm, hpl, a0, a1, a2, a3⟩ : ∃ pg po cap n, pv = .slice (some ⟨pg, po, none⟩) n cap ∧ k < n ∧ n ≤ cap ∧ cap ≤ 9223372036854775807 ∧ pg < w.heap.size ∧ w.cell? ⟨pg, po + k * 4, none⟩ = some (.int .i64 l[k].op) ∧ w.cell? ⟨pg, po + k * 4 + 1, none⟩ = some (.int .i64 l[k].d) ∧ w.cell? ⟨pg, po + k * 4 + 2, none⟩ = some (.int .i64 l[k].s) ∧ w.cell? ⟨pg, po + k * 4 + 3, none⟩ = some (.int .i64 l[k].imm) := by
    rcases hp with ⟨_, h0⟩ | ⟨g, off, cap, he, h1, h2, h3, h4⟩
    · rw [h0] at hl; cases hl
    · obtain ⟨e0, e1, e2, e3⟩ := h4 k hl
      exact ⟨g, off, cap, l.length, he, hl, h1, h2, h3, e0, e1, e2, e3⟩
  have hnI : (k : Int) < (n : Int) := by omega
  obtain ⟨dn, hdn⟩ : ∃ dn : Nat, l[k].d = dn := ⟨l[k].d.toNat, by have := hpx.2.1; omega⟩
  obtain ⟨sn, hsn⟩ : ∃ sn : Nat, l[k].s = sn := ⟨l[k].s.toNat, by have := hpx.2.2.1; omega⟩
  have hd : dn < 8 := by have := hpx.2.1; omega
  have hs : sn < 8 := by have := hpx.2.2.1; omega
  have hi : -2147483648 ≤ l[k].imm ∧ l[k].imm ≤ 2147483647 := hpx.imm
  have HRI : Hid (∀ w, Calls Tryd.prog 15 #[.agg #[.int .i64 l[k].op, .int .i64 l[k].d, .int .i64 l[k].s, .int .i64 l[k].imm]] w fun e w' => e = .returned (.bool true) ∧ Below w.heap.size w w') := fun w => by
    have := right_any l[k] w
    rw [decide_eq_true hpx] at this
    exact this
  rw [ho] at a0 HRI
  clear ho
  obtain ⟨m4, hm4⟩ : ∃ m4 : Mach, m4 = { m with at' := m.at' + 1 } := ⟨_, rfl⟩
  rw [← hm4]
  have HM4E : Hid (m4 = { m with at' := m.at' + 1 }) := hm4
  have hp4 : m4.page.size ≤ 1000000 := by rw [hm4]; exact hpg
  have hr4 : m4.r 3 ≤ 9223372036854775807 := by rw [hm4]; exact hr3
  clear hm4
  rw [hdn] at HRI a1
  rw [hsn] at HRI a2
  try rw [hdn, hsn, Int.toNat_natCast, Int.toNat_natCast]
  clear hpx hp hdn hsn
  generalize l[k].op = op at *
  generalize l[k].imm = im at *
  clear hl l
  have HM : Hid (MAt w b (.slice (some ⟨pg, po, none⟩) n cap) ev sb lv m) := h
  have y0 := h.cProg
  have y29 := h.cAt
  rw [hk] at y29
  have HSL : Hid (∀ W, Below w.heap.size w W → W.cell? ⟨b, 0, none⟩ = some (.slice (some ⟨pg, po, none⟩) n cap) ∧ W.cell? ⟨b, 29, none⟩ = some (.int .i64 k) ∧ W.cell? ⟨pg, po + k * 4, none⟩ = some (.int .i64 19) ∧ W.cell? ⟨pg, po + k * 4 + 1, none⟩ = some (.int .i64 dn) ∧ W.cell? ⟨pg, po + k * 4 + 2, none⟩ = some (.int .i64 sn) ∧ W.cell? ⟨pg, po + k * 4 + 3, none⟩ = some (.int .i64 im)) := fun W hW =>
    ⟨(World.cell?_of_block (hW.block b hbl)).trans y0, (World.cell?_of_block (hW.block b hbl)).trans y29, (World.cell?_of_block (hW.block pg hpl)).trans a0, (World.cell?_of_block (hW.block pg hpl)).trans a1, (World.cell?_of_block (hW.block pg hpl)).trans a2, (World.cell?_of_block (hW.block pg hpl)).trans a3⟩
  clear h
  go_enter Tryd.func12, Tryd.ntmps12
  go_wp2_with fail
  refine wp_region_held_drew (S := fun W => W.cell? ⟨b, 0, none⟩ = some (.slice (some ⟨pg, po, none⟩) n cap) ∧ W.cell? ⟨b, 29, none⟩ = some (.int .i64 k) ∧ W.cell? ⟨pg, po + k * 4, none⟩ = some (.int .i64 19) ∧ W.cell? ⟨pg, po + k * 4 + 1, none⟩ = some (.int .i64 dn) ∧ W.cell? ⟨pg, po + k * 4 + 2, none⟩ = some (.int .i64 sn) ∧ W.cell? ⟨pg, po + k * 4 + 3, none⟩ = some (.int .i64 im)) (by kernel_rfl) (by exact ⟨y0, y29, a0, a1, a2, a3⟩) (fun hHeld => ?_)
  change wpAnyH _ _ _ _ _ 12 (Array.replicate 12 false) _ _
  refine wpAnyH_take (i := 0) (oi := _) (v := _) (by simp only [List.getElem?_toArray, List.getElem?_cons_zero]; rfl) (by kernel_rfl) (by kernel_rfl) (by kernel_rfl) (by exact fun _ _ _ h => h) (Or.inl ⟨by rfl, by intro w' hSw; (try dsimp only at hSw); first | (go_simp; done) | (go_simp; with_reducible rfl)⟩) hHeld ?_
  simp only [Act.put, List.setIfInBounds_toArray, List.set_cons_zero, List.set_cons_succ]
  refine wpAnyH_take (i := 1) (oi := _) (v := _) (by simp only [List.getElem?_toArray, List.getElem?_cons_succ, List.getElem?_cons_zero]; rfl) (by kernel_rfl) (by kernel_rfl) (by kernel_rfl) (by exact fun _ _ _ h => h) (Or.inl ⟨by rfl, by intro w' hSw; (try dsimp only at hSw); first | (go_simp; done) | (go_simp; with_reducible rfl)⟩) hHeld ?_
  simp only [Act.put, List.setIfInBounds_toArray, List.set_cons_zero, List.set_cons_succ]
  refine wpAnyH_take (i := 2) (oi := _) (v := _) (by simp only [List.getElem?_toArray, List.getElem?_cons_succ, List.getElem?_cons_zero]; rfl) (by kernel_rfl) (by kernel_rfl) (by kernel_rfl) (by exact fun _ _ _ h => h) (Or.inl ⟨by rfl, by intro w' hSw; (try dsimp only at hSw); first | (go_simp; done) | (go_simp; with_reducible rfl)⟩) hHeld ?_
  simp only [Act.put, List.setIfInBounds_toArray, List.set_cons_zero, List.set_cons_succ]
  refine wpAnyH_take (i := 3) (oi := _) (v := _) (by simp only [List.getElem?_toArray, List.getElem?_cons_succ, List.getElem?_cons_zero]; rfl) (by kernel_rfl) (by kernel_rfl) (by kernel_rfl) (by exact fun _ _ _ h => h) (Or.inl ⟨by rfl, by intro w' hSw; (try dsimp only at hSw); first | (go_simp; done) | (go_simp; with_reducible rfl)⟩) hHeld ?_
  simp only [Act.put, List.setIfInBounds_toArray, List.set_cons_zero, List.set_cons_succ]
  refine wpAnyH_take (i := 4) (oi := _) (v := _) (by simp only [List.getElem?_toArray, List.getElem?_cons_succ, List.getElem?_cons_zero]; rfl) (by kernel_rfl) (by kernel_rfl) (by kernel_rfl) (by exact fun _ _ _ h => h) (Or.inl ⟨by rfl, by intro w' hSw; (try dsimp only at hSw); first | (go_simp; done) | (go_simp; with_reducible rfl)⟩) hHeld ?_
  simp only [Act.put, List.setIfInBounds_toArray, List.set_cons_zero, List.set_cons_succ]
  refine wpAnyH_take (i := 5) (oi := _) (v := _) (by simp only [List.getElem?_toArray, List.getElem?_cons_succ, List.getElem?_cons_zero]; rfl) (by kernel_rfl) (by kernel_rfl) (by kernel_rfl) (by exact fun _ _ _ h => h) (Or.inl ⟨by rfl, by intro w' hSw; (try dsimp only at hSw); first | (go_simp; done) | (go_simp; with_reducible rfl)⟩) hHeld ?_
  simp only [Act.put, List.setIfInBounds_toArray, List.set_cons_zero, List.set_cons_succ]
  refine wpAnyH_take (i := 6) (oi := _) (v := _) (by simp only [List.getElem?_toArray, List.getElem?_cons_succ, List.getElem?_cons_zero]; rfl) (by kernel_rfl) (by kernel_rfl) (by kernel_rfl) (by exact fun _ _ _ h => h) (Or.inl ⟨by rfl, by intro w' hSw; (try dsimp only at hSw); first | (go_simp; done) | (go_simp; with_reducible rfl)⟩) hHeld ?_
  simp only [Act.put, List.setIfInBounds_toArray, List.set_cons_zero, List.set_cons_succ]
  refine wpAnyH_take (i := 7) (oi := _) (v := _) (by simp only [List.getElem?_toArray, List.getElem?_cons_succ, List.getElem?_cons_zero]; rfl) (by kernel_rfl) (by kernel_rfl) (by kernel_rfl) (by exact fun _ _ _ h => h) (Or.inl ⟨by rfl, by intro w' hSw; (try dsimp only at hSw); first | (go_simp; done) | (go_simp; with_reducible rfl)⟩) hHeld ?_
  simp only [Act.put, List.setIfInBounds_toArray, List.set_cons_zero, List.set_cons_succ]
  refine wpAnyH_take (i := 8) (oi := _) (v := _) (by simp only [List.getElem?_toArray, List.getElem?_cons_succ, List.getElem?_cons_zero]; rfl) (by kernel_rfl) (by kernel_rfl) (by kernel_rfl) (by exact fun _ _ _ h => h) (Or.inl ⟨by rfl, by intro w' hSw; (try dsimp only at hSw); first | (go_simp; done) | (go_simp; with_reducible rfl)⟩) hHeld ?_
  simp only [Act.put, List.setIfInBounds_toArray, List.set_cons_zero, List.set_cons_succ]
  refine wpAnyH_take (i := 9) (oi := _) (v := _) (by simp only [List.getElem?_toArray, List.getElem?_cons_succ, List.getElem?_cons_zero]; rfl) (by kernel_rfl) (by kernel_rfl) (by kernel_rfl) (by exact fun _ _ _ h => h) (Or.inl ⟨by rfl, by intro w' hSw; (try dsimp only at hSw); first | (go_simp; done) | (go_simp; with_reducible rfl)⟩) hHeld ?_
  simp only [Act.put, List.setIfInBounds_toArray, List.set_cons_zero, List.set_cons_succ]
  refine wpAnyH_ready (rs := [10]) (by kernel_rfl) (by simp) ?_
  refine AllReadyH.cons rfl (fun K hK => ?_) AllReadyH.nil
  go_simp
  obtain ⟨z1, hz1⟩ : ∃ z1, z1 = (World.alloc w (Obj.cells #[.int .i64 0, .int .i64 0, .int .i64 0, .int .i64 0] 44)).drew := ⟨_, rfl⟩
  have HB1 : Hid (Below w.heap.size w z1) := by rw [hz1]; exact ((Below.refl _ _).alloc (Nat.le_refl _) _).drew
  have HX1 : Hid (z1.heap[w.heap.size]? = some (.cells #[.int .i64 0, .int .i64 0, .int .i64 0, .int .i64 0] 44 (0, 0))) := by rw [hz1]; exact heap_alloc_new w _
  rw [← hz1]
  refine hK.out _ _ (HSL.out _ HB1.out) (fun hHeld => ?_)
  clear hK K hz1
  refine wpAnyH_ready (rs := [11]) (by kernel_rfl) (by simp) ?_
  refine AllReadyH.cons rfl (fun K hK => ?_) AllReadyH.nil
  have t0 := cell_of_heap HX1.out 0 _ rfl
  have t1 := cell_of_heap HX1.out 1 _ rfl
  have t2 := cell_of_heap HX1.out 2 _ rfl
  have t3 := cell_of_heap HX1.out 3 _ rfl
  have g0 := free_of_heap HX1.out 0
  have g1 := free_of_heap HX1.out 1
  have g2 := free_of_heap HX1.out 2
  have g3 := free_of_heap HX1.out 3
  go_simp
  obtain ⟨z2, hz2⟩ : ∃ z2, z2 = put4 z1 w.heap.size (.int .i64 19) (.int .i64 dn) (.int .i64 sn) (.int .i64 im) := ⟨_, rfl⟩
  have HB2 : Hid (Below w.heap.size w z2) := by rw [hz2]; exact put4_below HB1.out _ (Nat.le_refl _) _ _ _ _
  have HX2 : Hid (z2.heap[w.heap.size]? = some (.cells #[.int .i64 19, .int .i64 dn, .int .i64 sn, .int .i64 im] 44 (0, 0))) := by rw [hz2]; exact put4_heap HX1.out _ _ _ _
  refine hK.out _ _ (HSL.out _ (by rw [hz2] at HB2; exact HB2.out)) (fun hHeld => ?_)
  clear hK K t0 t1 t2 t3 g0 g1 g2 g3
  refine wpAnyH_done (by kernel_rfl) ?_ _
  rw [show (((z1.setCell ⟨w.heap.size, 0, none⟩ (.int .i64 19)).setCell ⟨w.heap.size, 1, none⟩ (.int .i64 dn)).setCell ⟨w.heap.size, 2, none⟩ (.int .i64 sn)).setCell ⟨w.heap.size, 3, none⟩ (.int .i64 im) = z2 from hz2.symm]
  clear hHeld y0 y29 a0 a1 a2 a3 hz2 HX1 HB1
  have x0 := cell_of_heap HX2.out 0 _ rfl
  have x1 := cell_of_heap HX2.out 1 _ rfl
  have x2 := cell_of_heap HX2.out 2 _ rfl
  have x3 := cell_of_heap HX2.out 3 _ rfl
  go_wp2_with fail
  refine (HRI.out _).mono ?_
  rintro r z3 ⟨rfl, hb3⟩
  have HB3 : Hid (Below w.heap.size w z3) := HB2.out.trans (hb3.mono HB2.out.size)
  have HX3 : Hid (z3.heap[w.heap.size]? = some (.cells #[.int .i64 19, .int .i64 dn, .int .i64 sn, .int .i64 im] 44 (0, 0))) := (hb3.block _ (lt_of_heap HX2.out)).trans HX2.out
  have HM3 : Hid (MAt z3 b (.slice (some ⟨pg, po, none⟩) n cap) ev sb lv m) := HM.out.below HB3.out
  clear hb3 x0 x1 x2 x3 HB2 HX2 HRI
  have x0 := cell_of_heap HX3.out 0 _ rfl
  have x1 := cell_of_heap HX3.out 1 _ rfl
  have x2 := cell_of_heap HX3.out 2 _ rfl
  have x3 := cell_of_heap HX3.out 3 _ rfl
  have y29 := HM3.out.cAt
  rw [hk] at y29
  have g29 := HM3.out.free 29
  have hkw : IntKind.i64.wrap ((k : Int) + 1) = (k : Int) + 1 := IntWalk.i64_in _ (by omega)
  have hne : w.heap.size ≠ b := by omega
  obtain ⟨z4, hz4⟩ : ∃ z4, z4 = z3.setCell ⟨b, 29, none⟩ (.int .i64 ((k : Int) + 1)) := ⟨_, rfl⟩
  have HM4 : Hid (MAt z4 b (.slice (some ⟨pg, po, none⟩) n cap) ev sb lv { m with at' := m.at' + 1 }) := by rw [hz4, hk]; exact HM3.out.sAt _
  have HO4 : Hid (Own b w z4) := by rw [hz4]; exact (Own.of_below HB3.out).trans (Own.set _ _ _ _)
  have HX4 : Hid (z4.heap[w.heap.size]? = some (.cells #[.int .i64 19, .int .i64 dn, .int .i64 sn, .int .i64 im] 44 (0, 0))) := by rw [hz4]; exact (heap_setCell_other z3 ⟨b, 29, none⟩ w.heap.size _ hne).trans HX3.out
  have v0 := cell_of_heap HX4.out 0 _ rfl
  have v1 := cell_of_heap HX4.out 1 _ rfl
  have v2 := cell_of_heap HX4.out 2 _ rfl
  have v3 := cell_of_heap HX4.out 3 _ rfl
  have hzs : w.heap.size < z4.heap.size := lt_of_heap HX4.out
  have HM5 : Hid (MAt z4 b (.slice (some ⟨pg, po, none⟩) n cap) ev sb lv m4) := by rw [HM4E.out]; exact HM4.out
  have HH := help_any HM5.out im hp4 hr4
  clear HB3 HX3 HM3
  go_wp2_with fail
  rw [← hz4]
  clear hz4 x0 x1 x2 x3 y29 g29
  go_wp2_with fail
  refine HH.mono ?_
  rintro r z5 ⟨rfl, hm5, ho5⟩
  go_wp2
  go_ret
  exact ⟨rfl, hm5, HO4.out.trans ho5⟩

theorem step_exit {w : World} {b sb : Nat} {pv ev lv : Value} {m : Mach} (h : MAt w b pv ev sb lv m) (l : List In4) (hp : InsAt w pv l) (k : Nat) (hk : m.at' = k) (hl : k < l.length) (hpx : RightP l[k]) (ho : l[k].op = 20) :
    Calls Tryd.prog 12 #[.pointer (some ⟨b, 0, none⟩)] w fun r w' => r = .returned (.bool (true)) ∧ MAt w' b pv ev sb lv ({ m with at' := m.at' + 1, ended := true, code := m.r 0 }) ∧ Own b w w' := by
  have hbl := h.lt
  obtain ⟨pg, po, cap, n, rfl, hn, hcap, hcm, hpl, a0, a1, a2, a3⟩ : ∃ pg po cap n, pv = .slice (some ⟨pg, po, none⟩) n cap ∧ k < n ∧ n ≤ cap ∧ cap ≤ 9223372036854775807 ∧ pg < w.heap.size ∧ w.cell? ⟨pg, po + k * 4, none⟩ = some (.int .i64 l[k].op) ∧ w.cell? ⟨pg, po + k * 4 + 1, none⟩ = some (.int .i64 l[k].d) ∧ w.cell? ⟨pg, po + k * 4 + 2, none⟩ = some (.int .i64 l[k].s) ∧ w.cell? ⟨pg, po + k * 4 + 3, none⟩ = some (.int .i64 l[k].imm) := by
    rcases hp with ⟨_, h0⟩ | ⟨g, off, cap, he, h1, h2, h3, h4⟩
    · rw [h0] at hl; cases hl
    · obtain ⟨e0, e1, e2, e3⟩ := h4 k hl
      exact ⟨g, off, cap, l.length, he, hl, h1, h2, h3, e0, e1, e2, e3⟩
  have hnI : (k : Int) < (n : Int) := by omega
  obtain ⟨dn, hdn⟩ : ∃ dn : Nat, l[k].d = dn := ⟨l[k].d.toNat, by have := hpx.2.1; omega⟩
  obtain ⟨sn, hsn⟩ : ∃ sn : Nat, l[k].s = sn := ⟨l[k].s.toNat, by have := hpx.2.2.1; omega⟩
  have hd : dn < 8 := by have := hpx.2.1; omega
  have hs : sn < 8 := by have := hpx.2.2.1; omega
  have hi : -2147483648 ≤ l[k].imm ∧ l[k].imm ≤ 2147483647 := hpx.imm
  have HRI : Hid (∀ w, Calls Tryd.prog 15 #[.agg #[.int .i64 l[k].op, .int .i64 l[k].d, .int .i64 l[k].s, .int .i64 l[k].imm]] w fun e w' => e = .returned (.bool true) ∧ Below w.heap.size w w') := fun w => by
    have := right_any l[k] w
    rw [decide_eq_true hpx] at this
    exact this
  rw [ho] at a0 HRI
  clear ho
  rw [hdn] at HRI a1
  rw [hsn] at HRI a2
  try rw [hdn, hsn, Int.toNat_natCast, Int.toNat_natCast]
  clear hpx hp hdn hsn
  generalize l[k].op = op at *
  generalize l[k].imm = im at *
  clear hl l
  have HM : Hid (MAt w b (.slice (some ⟨pg, po, none⟩) n cap) ev sb lv m) := h
  have y0 := h.cProg
  have y29 := h.cAt
  rw [hk] at y29
  have HSL : Hid (∀ W, Below w.heap.size w W → W.cell? ⟨b, 0, none⟩ = some (.slice (some ⟨pg, po, none⟩) n cap) ∧ W.cell? ⟨b, 29, none⟩ = some (.int .i64 k) ∧ W.cell? ⟨pg, po + k * 4, none⟩ = some (.int .i64 20) ∧ W.cell? ⟨pg, po + k * 4 + 1, none⟩ = some (.int .i64 dn) ∧ W.cell? ⟨pg, po + k * 4 + 2, none⟩ = some (.int .i64 sn) ∧ W.cell? ⟨pg, po + k * 4 + 3, none⟩ = some (.int .i64 im)) := fun W hW =>
    ⟨(World.cell?_of_block (hW.block b hbl)).trans y0, (World.cell?_of_block (hW.block b hbl)).trans y29, (World.cell?_of_block (hW.block pg hpl)).trans a0, (World.cell?_of_block (hW.block pg hpl)).trans a1, (World.cell?_of_block (hW.block pg hpl)).trans a2, (World.cell?_of_block (hW.block pg hpl)).trans a3⟩
  clear h
  go_enter Tryd.func12, Tryd.ntmps12
  go_wp2_with fail
  refine wp_region_held_drew (S := fun W => W.cell? ⟨b, 0, none⟩ = some (.slice (some ⟨pg, po, none⟩) n cap) ∧ W.cell? ⟨b, 29, none⟩ = some (.int .i64 k) ∧ W.cell? ⟨pg, po + k * 4, none⟩ = some (.int .i64 20) ∧ W.cell? ⟨pg, po + k * 4 + 1, none⟩ = some (.int .i64 dn) ∧ W.cell? ⟨pg, po + k * 4 + 2, none⟩ = some (.int .i64 sn) ∧ W.cell? ⟨pg, po + k * 4 + 3, none⟩ = some (.int .i64 im)) (by kernel_rfl) (by exact ⟨y0, y29, a0, a1, a2, a3⟩) (fun hHeld => ?_)
  change wpAnyH _ _ _ _ _ 12 (Array.replicate 12 false) _ _
  refine wpAnyH_take (i := 0) (oi := _) (v := _) (by simp only [List.getElem?_toArray, List.getElem?_cons_zero]; rfl) (by kernel_rfl) (by kernel_rfl) (by kernel_rfl) (by exact fun _ _ _ h => h) (Or.inl ⟨by rfl, by intro w' hSw; (try dsimp only at hSw); first | (go_simp; done) | (go_simp; with_reducible rfl)⟩) hHeld ?_
  simp only [Act.put, List.setIfInBounds_toArray, List.set_cons_zero, List.set_cons_succ]
  refine wpAnyH_take (i := 1) (oi := _) (v := _) (by simp only [List.getElem?_toArray, List.getElem?_cons_succ, List.getElem?_cons_zero]; rfl) (by kernel_rfl) (by kernel_rfl) (by kernel_rfl) (by exact fun _ _ _ h => h) (Or.inl ⟨by rfl, by intro w' hSw; (try dsimp only at hSw); first | (go_simp; done) | (go_simp; with_reducible rfl)⟩) hHeld ?_
  simp only [Act.put, List.setIfInBounds_toArray, List.set_cons_zero, List.set_cons_succ]
  refine wpAnyH_take (i := 2) (oi := _) (v := _) (by simp only [List.getElem?_toArray, List.getElem?_cons_succ, List.getElem?_cons_zero]; rfl) (by kernel_rfl) (by kernel_rfl) (by kernel_rfl) (by exact fun _ _ _ h => h) (Or.inl ⟨by rfl, by intro w' hSw; (try dsimp only at hSw); first | (go_simp; done) | (go_simp; with_reducible rfl)⟩) hHeld ?_
  simp only [Act.put, List.setIfInBounds_toArray, List.set_cons_zero, List.set_cons_succ]
  refine wpAnyH_take (i := 3) (oi := _) (v := _) (by simp only [List.getElem?_toArray, List.getElem?_cons_succ, List.getElem?_cons_zero]; rfl) (by kernel_rfl) (by kernel_rfl) (by kernel_rfl) (by exact fun _ _ _ h => h) (Or.inl ⟨by rfl, by intro w' hSw; (try dsimp only at hSw); first | (go_simp; done) | (go_simp; with_reducible rfl)⟩) hHeld ?_
  simp only [Act.put, List.setIfInBounds_toArray, List.set_cons_zero, List.set_cons_succ]
  refine wpAnyH_take (i := 4) (oi := _) (v := _) (by simp only [List.getElem?_toArray, List.getElem?_cons_succ, List.getElem?_cons_zero]; rfl) (by kernel_rfl) (by kernel_rfl) (by kernel_rfl) (by exact fun _ _ _ h => h) (Or.inl ⟨by rfl, by intro w' hSw; (try dsimp only at hSw); first | (go_simp; done) | (go_simp; with_reducible rfl)⟩) hHeld ?_
  simp only [Act.put, List.setIfInBounds_toArray, List.set_cons_zero, List.set_cons_succ]
  refine wpAnyH_take (i := 5) (oi := _) (v := _) (by simp only [List.getElem?_toArray, List.getElem?_cons_succ, List.getElem?_cons_zero]; rfl) (by kernel_rfl) (by kernel_rfl) (by kernel_rfl) (by exact fun _ _ _ h => h) (Or.inl ⟨by rfl, by intro w' hSw; (try dsimp only at hSw); first | (go_simp; done) | (go_simp; with_reducible rfl)⟩) hHeld ?_
  simp only [Act.put, List.setIfInBounds_toArray, List.set_cons_zero, List.set_cons_succ]
  refine wpAnyH_take (i := 6) (oi := _) (v := _) (by simp only [List.getElem?_toArray, List.getElem?_cons_succ, List.getElem?_cons_zero]; rfl) (by kernel_rfl) (by kernel_rfl) (by kernel_rfl) (by exact fun _ _ _ h => h) (Or.inl ⟨by rfl, by intro w' hSw; (try dsimp only at hSw); first | (go_simp; done) | (go_simp; with_reducible rfl)⟩) hHeld ?_
  simp only [Act.put, List.setIfInBounds_toArray, List.set_cons_zero, List.set_cons_succ]
  refine wpAnyH_take (i := 7) (oi := _) (v := _) (by simp only [List.getElem?_toArray, List.getElem?_cons_succ, List.getElem?_cons_zero]; rfl) (by kernel_rfl) (by kernel_rfl) (by kernel_rfl) (by exact fun _ _ _ h => h) (Or.inl ⟨by rfl, by intro w' hSw; (try dsimp only at hSw); first | (go_simp; done) | (go_simp; with_reducible rfl)⟩) hHeld ?_
  simp only [Act.put, List.setIfInBounds_toArray, List.set_cons_zero, List.set_cons_succ]
  refine wpAnyH_take (i := 8) (oi := _) (v := _) (by simp only [List.getElem?_toArray, List.getElem?_cons_succ, List.getElem?_cons_zero]; rfl) (by kernel_rfl) (by kernel_rfl) (by kernel_rfl) (by exact fun _ _ _ h => h) (Or.inl ⟨by rfl, by intro w' hSw; (try dsimp only at hSw); first | (go_simp; done) | (go_simp; with_reducible rfl)⟩) hHeld ?_
  simp only [Act.put, List.setIfInBounds_toArray, List.set_cons_zero, List.set_cons_succ]
  refine wpAnyH_take (i := 9) (oi := _) (v := _) (by simp only [List.getElem?_toArray, List.getElem?_cons_succ, List.getElem?_cons_zero]; rfl) (by kernel_rfl) (by kernel_rfl) (by kernel_rfl) (by exact fun _ _ _ h => h) (Or.inl ⟨by rfl, by intro w' hSw; (try dsimp only at hSw); first | (go_simp; done) | (go_simp; with_reducible rfl)⟩) hHeld ?_
  simp only [Act.put, List.setIfInBounds_toArray, List.set_cons_zero, List.set_cons_succ]
  refine wpAnyH_ready (rs := [10]) (by kernel_rfl) (by simp) ?_
  refine AllReadyH.cons rfl (fun K hK => ?_) AllReadyH.nil
  go_simp
  obtain ⟨z1, hz1⟩ : ∃ z1, z1 = (World.alloc w (Obj.cells #[.int .i64 0, .int .i64 0, .int .i64 0, .int .i64 0] 44)).drew := ⟨_, rfl⟩
  have HB1 : Hid (Below w.heap.size w z1) := by rw [hz1]; exact ((Below.refl _ _).alloc (Nat.le_refl _) _).drew
  have HX1 : Hid (z1.heap[w.heap.size]? = some (.cells #[.int .i64 0, .int .i64 0, .int .i64 0, .int .i64 0] 44 (0, 0))) := by rw [hz1]; exact heap_alloc_new w _
  rw [← hz1]
  refine hK.out _ _ (HSL.out _ HB1.out) (fun hHeld => ?_)
  clear hK K hz1
  refine wpAnyH_ready (rs := [11]) (by kernel_rfl) (by simp) ?_
  refine AllReadyH.cons rfl (fun K hK => ?_) AllReadyH.nil
  have t0 := cell_of_heap HX1.out 0 _ rfl
  have t1 := cell_of_heap HX1.out 1 _ rfl
  have t2 := cell_of_heap HX1.out 2 _ rfl
  have t3 := cell_of_heap HX1.out 3 _ rfl
  have g0 := free_of_heap HX1.out 0
  have g1 := free_of_heap HX1.out 1
  have g2 := free_of_heap HX1.out 2
  have g3 := free_of_heap HX1.out 3
  go_simp
  obtain ⟨z2, hz2⟩ : ∃ z2, z2 = put4 z1 w.heap.size (.int .i64 20) (.int .i64 dn) (.int .i64 sn) (.int .i64 im) := ⟨_, rfl⟩
  have HB2 : Hid (Below w.heap.size w z2) := by rw [hz2]; exact put4_below HB1.out _ (Nat.le_refl _) _ _ _ _
  have HX2 : Hid (z2.heap[w.heap.size]? = some (.cells #[.int .i64 20, .int .i64 dn, .int .i64 sn, .int .i64 im] 44 (0, 0))) := by rw [hz2]; exact put4_heap HX1.out _ _ _ _
  refine hK.out _ _ (HSL.out _ (by rw [hz2] at HB2; exact HB2.out)) (fun hHeld => ?_)
  clear hK K t0 t1 t2 t3 g0 g1 g2 g3
  refine wpAnyH_done (by kernel_rfl) ?_ _
  rw [show (((z1.setCell ⟨w.heap.size, 0, none⟩ (.int .i64 20)).setCell ⟨w.heap.size, 1, none⟩ (.int .i64 dn)).setCell ⟨w.heap.size, 2, none⟩ (.int .i64 sn)).setCell ⟨w.heap.size, 3, none⟩ (.int .i64 im) = z2 from hz2.symm]
  clear hHeld y0 y29 a0 a1 a2 a3 hz2 HX1 HB1
  have x0 := cell_of_heap HX2.out 0 _ rfl
  have x1 := cell_of_heap HX2.out 1 _ rfl
  have x2 := cell_of_heap HX2.out 2 _ rfl
  have x3 := cell_of_heap HX2.out 3 _ rfl
  go_wp2_with fail
  refine (HRI.out _).mono ?_
  rintro r z3 ⟨rfl, hb3⟩
  have HB3 : Hid (Below w.heap.size w z3) := HB2.out.trans (hb3.mono HB2.out.size)
  have HX3 : Hid (z3.heap[w.heap.size]? = some (.cells #[.int .i64 20, .int .i64 dn, .int .i64 sn, .int .i64 im] 44 (0, 0))) := (hb3.block _ (lt_of_heap HX2.out)).trans HX2.out
  have HM3 : Hid (MAt z3 b (.slice (some ⟨pg, po, none⟩) n cap) ev sb lv m) := HM.out.below HB3.out
  clear hb3 x0 x1 x2 x3 HB2 HX2 HRI
  have x0 := cell_of_heap HX3.out 0 _ rfl
  have x1 := cell_of_heap HX3.out 1 _ rfl
  have x2 := cell_of_heap HX3.out 2 _ rfl
  have x3 := cell_of_heap HX3.out 3 _ rfl
  have y29 := HM3.out.cAt
  rw [hk] at y29
  have g29 := HM3.out.free 29
  have hkw : IntKind.i64.wrap ((k : Int) + 1) = (k : Int) + 1 := IntWalk.i64_in _ (by omega)
  have hne : w.heap.size ≠ b := by omega
  obtain ⟨z4, hz4⟩ : ∃ z4, z4 = z3.setCell ⟨b, 29, none⟩ (.int .i64 ((k : Int) + 1)) := ⟨_, rfl⟩
  have HM4 : Hid (MAt z4 b (.slice (some ⟨pg, po, none⟩) n cap) ev sb lv { m with at' := m.at' + 1 }) := by rw [hz4, hk]; exact HM3.out.sAt _
  have HO4 : Hid (Own b w z4) := by rw [hz4]; exact (Own.of_below HB3.out).trans (Own.set _ _ _ _)
  have HX4 : Hid (z4.heap[w.heap.size]? = some (.cells #[.int .i64 20, .int .i64 dn, .int .i64 sn, .int .i64 im] 44 (0, 0))) := by rw [hz4]; exact (heap_setCell_other z3 ⟨b, 29, none⟩ w.heap.size _ hne).trans HX3.out
  have v0 := cell_of_heap HX4.out 0 _ rfl
  have v1 := cell_of_heap HX4.out 1 _ rfl
  have v2 := cell_of_heap HX4.out 2 _ rfl
  have v3 := cell_of_heap HX4.out 3 _ rfl
  have hzs : w.heap.size < z4.heap.size := lt_of_heap HX4.out
  have y31 := HM3.out.cEnded
  have g31 := HM3.out.free 31
  have y32 := HM3.out.cCode
  have g32 := HM3.out.free 32
  have y21 : z3.cell? ⟨b, 21, none⟩ = some (.int .i64 (m.r 0)) := HM3.out.cReg 0 (by decide)
  have HM6 : Hid (MAt (((z3.setCell ⟨b, 29, none⟩ (.int .i64 ((k : Int) + 1))).setCell ⟨b, 31, none⟩ (.bool true)).setCell ⟨b, 32, none⟩ (.int .i64 (m.r 0))) b (.slice (some ⟨pg, po, none⟩) n cap) ev sb lv { m with at' := m.at' + 1, ended := true, code := m.r 0 }) := by
    rw [hk]
    exact ((HM3.out.sAt ((k : Int) + 1)).sEnded true).sCode (m.r 0)
  have HO6 : Hid (Own b w (((z3.setCell ⟨b, 29, none⟩ (.int .i64 ((k : Int) + 1))).setCell ⟨b, 31, none⟩ (.bool true)).setCell ⟨b, 32, none⟩ (.int .i64 (m.r 0)))) := (((Own.of_below HB3.out).trans (Own.set _ _ _ _)).trans (Own.set _ _ _ _)).trans (Own.set _ _ _ _)
  clear hz4 HM4 HO4 HX4 v0 v1 v2 v3 hzs
  clear z4
  go_wp2
  go_ret
  exact ⟨rfl, HM6.out, HO6.out⟩

end Go.Proofs.YtncjlcgndhodmabDoor.Rn
