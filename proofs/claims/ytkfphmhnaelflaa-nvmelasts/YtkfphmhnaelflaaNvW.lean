/-
  A command's data are written: into the cache, or at once as what lasts. No condition.
-/
import Derived.Test.YtkfphmhnaelflaaNvDg
import Derived.Test.YtkfphmhnaelflaaNvCrash
namespace Go.Proofs.Ytkfphmhnaelflaa.Nv
open Go.ChangeShapes Go.WideShapes Go.ChangeAt Go.RowKit Go.Proofs.Fa

variable {w : World} {S : Nat → Prop} {b : Nat} {d : Dev} {vl vc vw vk : Value}

def writeF (d : Dev) (c : Cmd) (lasts : Bool) : Dev := if lasts = true then { d with cache := filt c.sector d.cache, lasting := settleL d.lasting [c] } else { d with cache := d.cache ++ [c] }
theorem Grow.grow {S : Nat → Prop} {w w0 w2 w3 w4 : World} (h1 : w.heap.size ≤ w0.heap.size) (h2 : w2.heap.size ≤ w4.heap.size) (h3 : w.heap.size ≤ w3.heap.size) (k : Nat) (h : Grow (Grow S w0 w2) w3 w4 k) : Grow S w w4 k := by
  rcases h with (h | ⟨h, h'⟩) | ⟨h, h'⟩
  · exact .inl h
  · exact .inr ⟨by omega, by omega⟩
  · exact .inr ⟨by omega, h'⟩

set_option maxRecDepth 100000
set_option maxHeartbeats 4000000

theorem write_any (c : Cmd) (lasts : Bool) (h : DevIn w S b d vl vc vw vk) (hcl : d.cache.length ≤ 1000000) (hll : d.lasting.length ≤ 100000) (hs : 0 ≤ c.sector ∧ c.sector < d.lasting.length) :
    Calls Try.prog 37 #[.pointer (some ⟨b, 0, none⟩), c.agg, .bool lasts] w fun e w' => (∃ u, e = .returned u) ∧ DevAt w' (Grow S w w') b (writeF d c lasts) ∧ Turn S w w' := by
  obtain ⟨k2, s2, d2, t2⟩ := c
  have HS : Hid (0 ≤ s2 ∧ s2 < d.lasting.length) := hs
  obtain ⟨w4, hw4⟩ : ∃ w4, w4 = w.alloc (Obj.cells #[.int .i64 k2, .int .i64 s2, .string d2, .int .i64 t2] 37) := ⟨_, rfl⟩
  have HB4 : Hid (Below w.heap.size w w4) := by rw [hw4]; exact (Below.refl _ _).alloc (Nat.le_refl _) _
  have HX4 : Hid (w4.heap[w.heap.size]? = some (.cells #[.int .i64 k2, .int .i64 s2, .string d2, .int .i64 t2] 37 (0, 0))) := by rw [hw4]; exact heap_alloc_new _ _
  have HD4 : Hid (DevIn w4 S b d vl vc vw vk) := h.below HB4.out
  have HLT : Hid (∀ k, S k → k < w.heap.size) := h.lt
  have HZ4 : Hid (w4.heap.size = w.heap.size + 1) := by show _ = _; rw [hw4]; simp
  clear h hs
  rw [show Cmd.agg ⟨k2, s2, d2, t2⟩ = .agg #[.int .i64 k2, .int .i64 s2, .string d2, .int .i64 t2] from rfl]
  obtain ⟨a0, a1, a2, a3, z0, z1, z2, z3⟩ := agg4 HX4.out
  obtain ⟨ac, capc, hvc, _⟩ := row_slice HD4.out.cac
  have m2 : w4.cell? ⟨b, 2, none⟩ = some (.slice ac d.cache.length capc) := by rw [← hvc]; exact cell_of_heap HD4.out.main 2 _ rfl
  have hbs : b < w4.heap.size := lt_of_heap HD4.out.main
  cases lasts
  case false =>
    obtain ⟨i0, hi, hz0, hz1, hz2⟩ := info_parts info_cmd
    obtain ⟨v', w5, hrun, hown', hgrow, hnear⟩ := run_append_near (P := Try.prog) (w4.alloc (Obj.cells #[.int .i64 k2, .int .i64 s2, .string d2, .int .i64 t2] 37)).drew 0 44 44 37 i0 _ 4 40 Try.underlying44 hi hz0 hz1 hz2 rfl (by decide) vc d.cache.length (ccells d.cache) (HD4.out.cac.alloc _).drew ⟨w4.heap.size, 0, none⟩ 1 1 [.int .i64 k2, .int .i64 s2, .string d2, .int .i64 t2] rfl (cells_new w4 _ _ _ _ _) (by intro u hu; simp only [List.mem_cons, List.not_mem_nil, or_false] at hu; rcases hu with rfl | rfl | rfl | rfl <;> rfl) (by unfold maxLen; omega) (by omega) (Nat.zero_le _)
    have hlen2 : ccells (d.cache ++ [(⟨k2, s2, d2, t2⟩ : Cmd)]) = ccells d.cache ++ [.int .i64 k2, .int .i64 s2, .string d2, .int .i64 t2] := by rw [ccells_append]; rfl
    have HO5 : Hid (w5.ownsRow 0 37 4 v' (d.cache ++ [(⟨k2, s2, d2, t2⟩ : Cmd)]).length (ccells (d.cache ++ [(⟨k2, s2, d2, t2⟩ : Cmd)]))) := by
      show World.ownsRow _ _ _ _ _ _ _
      rw [hlen2, List.length_append]; exact hown'
    obtain ⟨g5, cap5, hv5⟩ := row_some HO5.out (by simp)
    rw [show (d.cache ++ [(⟨k2, s2, d2, t2⟩ : Cmd)]).length = d.cache.length + 1 by simp] at hv5
    have HNE : Hid (vc.ownBlock ≠ some b) := fun e => row_ne HD4.out.cac HD4.out.main (by decide) b e rfl
    have HM5 : Hid (w5.heap[b]? = some (.cells (devCells d vl vc vw vk) 56 (0, 0))) := by
      refine (hgrow.block b (by simp; omega) (fun e => HNE.out e.symm)).trans ?_
      exact (Below.heap_alloc _ _ _ hbs).trans HD4.out.main
    have HT5 : Hid (Turn (fun k => vc.ownBlock = some k) w4 w5) := ((Turn.refl _ w4).alloc (Obj.cells #[.int .i64 k2, .int .i64 s2, .string d2, .int .i64 t2] 37)).drew.trans (Turn.grown hgrow (fun g e => .inl e))
    have HNR : Hid (Near w4 vc v') := by
      rcases hnear with h | ⟨k, h, hk⟩
      · exact .inl h
      · exact .inr ⟨k, h, by simp at hk; omega⟩
    have n3 : w5.cell? ⟨b, 2, none⟩ = some (.slice ac d.cache.length capc) := by rw [← hvc]; exact cell_of_heap HM5.out 2 _ rfl
    have nf : w5.frozen? ⟨b, 2, none⟩ = false := free_of_heap HM5.out 2
    rw [hvc] at hrun
    have HFF : Hid (DevAt (w5.setCell ⟨b, 2, none⟩ v') (Grow S w (w5.setCell ⟨b, 2, none⟩ v')) b (writeF d ⟨k2, s2, d2, t2⟩ false) ∧ Turn S w (w5.setCell ⟨b, 2, none⟩ v')) := by
      have hT : Turn (fun k => k = b ∨ vc.ownBlock = some k) w4 (w5.setCell ⟨b, 2, none⟩ v') := (HT5.out.mono (fun _ e => .inr e)).setCell b 2 v' (.inl (.inl rfl))
      have hD := HD4.out.caches hT { d with cache := d.cache ++ [⟨k2, s2, d2, t2⟩] } v' (set_main HM5.out 2 v') (row_turn HO5.out (turn_set w5 b 2 v') (fun g e => row_ne HO5.out HM5.out (by decide) g e)) (.inl HNR.out) rfl rfl rfl
      exact ⟨⟨_, _, _, _, (hD.chain HB4.out).1⟩, (hD.chain HB4.out).2 (hT.mono (fun k e => by rcases e with rfl | e; exact HD4.out.sb; exact HD4.out.sc k e))⟩
    clear hown' hgrow hnear hlen2
    subst hv5
    go_enter Try.func37, Try.ntmps37
    go_wp2_with fail
    rw [← hw4]
    clear hw4
    refine wp_region_held_drew (S := fun _ => True) (by kernel_rfl) (by exact True.intro) (fun hHeld => ?_)
    change wpAnyH _ _ _ _ _ 11 (Array.replicate 11 false) _ _
    refine wpAnyH_take (i := 0) (oi := _) (v := _) (by simp only [List.getElem?_toArray, List.getElem?_cons_zero]; rfl) (by kernel_rfl) (by kernel_rfl) (by kernel_rfl) (by exact fun _ _ _ h => h) (Or.inl ⟨by rfl, by intro w' hSw; (try dsimp only at hSw); first | (go_simp; done) | (go_simp; with_reducible rfl)⟩) hHeld ?_
    simp only [Act.put, List.setIfInBounds_toArray, List.set_cons_zero, List.set_cons_succ]
    refine wpAnyH_take (i := 1) (oi := _) (v := _) (by simp only [List.getElem?_toArray, List.getElem?_cons_succ, List.getElem?_cons_zero]; rfl) (by kernel_rfl) (by kernel_rfl) (by kernel_rfl) (by exact fun _ _ _ h => h) (Or.inl ⟨by rfl, by intro w' hSw; (try dsimp only at hSw); first | (go_simp; done) | (go_simp; with_reducible rfl)⟩) hHeld ?_
    simp only [Act.put, List.setIfInBounds_toArray, List.set_cons_zero, List.set_cons_succ]
    refine wpAnyH_take (i := 2) (oi := _) (v := _) (by simp only [List.getElem?_toArray, List.getElem?_cons_succ, List.getElem?_cons_zero]; rfl) (by kernel_rfl) (by kernel_rfl) (by kernel_rfl) (by exact fun _ _ _ h => h) (Or.inl ⟨by rfl, by intro w' hSw; (try dsimp only at hSw); first | (go_simp; done) | (go_simp; with_reducible rfl)⟩) hHeld ?_
    simp only [Act.put, List.setIfInBounds_toArray, List.set_cons_zero, List.set_cons_succ]
    refine wpAnyH_take (i := 3) (oi := _) (v := _) (by simp only [List.getElem?_toArray, List.getElem?_cons_succ, List.getElem?_cons_zero]; rfl) (by kernel_rfl) (by kernel_rfl) (by kernel_rfl) (by exact fun _ _ _ h => h) (Or.inl ⟨by rfl, by intro w' hSw; (try dsimp only at hSw); first | (go_simp; done) | (go_simp; with_reducible rfl)⟩) hHeld ?_
    simp only [Act.put, List.setIfInBounds_toArray, List.set_cons_zero, List.set_cons_succ]
    refine wpAnyH_ready (rs := [4, 5]) (by kernel_rfl) (by simp) ?_
    refine AllReadyH.cons rfl (fun K hK => ?_) (AllReadyH.cons rfl (fun K hK => ?_) AllReadyH.nil)
    · skip
      go_simp
      go_wp2_with fail
      refine hK.out _ _ True.intro (fun hHeld => ?_)
      clear hK K
      refine wpAnyH_ready (rs := [5]) (by kernel_rfl) (by simp) ?_
      refine AllReadyH.cons rfl (fun K hK => ?_) AllReadyH.nil
      go_simp
      go_wp2_with fail
      refine hK.out _ _ True.intro (fun hHeld => ?_)
      clear hK K
      refine wpAnyH_ready (rs := [6]) (by kernel_rfl) (by simp) ?_
      refine AllReadyH.cons rfl (fun K hK => ?_) AllReadyH.nil
      go_simp
      go_wp2_with fail
      refine hK.out _ _ True.intro (fun hHeld => ?_)
      clear hK K
      refine wpAnyH_ready (rs := [7]) (by kernel_rfl) (by simp) ?_
      refine AllReadyH.cons (o := _) (by simp only [List.getElem?_toArray, List.getElem?_cons_succ, List.getElem?_cons_zero]; rfl) (fun K hK => ?_) AllReadyH.nil
      refine wpH_append (by rfl) rfl rfl rfl hrun ?_
      refine hK.out _ _ True.intro (fun hHeld => ?_)
      clear hK K
      simp only [Act.put, List.setIfInBounds_toArray, List.set_cons_zero, List.set_cons_succ]
      refine wpAnyH_take (i := 8) (oi := _) (v := _) (by simp only [List.getElem?_toArray, List.getElem?_cons_succ, List.getElem?_cons_zero]; rfl) (by kernel_rfl) (by kernel_rfl) (by kernel_rfl) (by exact fun _ _ _ h => h) (Or.inl ⟨by rfl, by intro w' hSw; (try dsimp only at hSw); first | (go_simp; done) | (go_simp; with_reducible rfl)⟩) hHeld ?_
      simp only [Act.put, List.setIfInBounds_toArray, List.set_cons_zero, List.set_cons_succ]
      refine wpAnyH_take (i := 9) (oi := _) (v := _) (by simp only [List.getElem?_toArray, List.getElem?_cons_succ, List.getElem?_cons_zero]; rfl) (by kernel_rfl) (by kernel_rfl) (by kernel_rfl) (by exact fun _ _ _ h => h) (Or.inl ⟨by rfl, by intro w' hSw; (try dsimp only at hSw); first | (go_simp; done) | (go_simp; with_reducible rfl)⟩) hHeld ?_
      simp only [Act.put, List.setIfInBounds_toArray, List.set_cons_zero, List.set_cons_succ]
      refine wpAnyH_ready (rs := [10]) (by kernel_rfl) (by simp) ?_
      refine AllReadyH.cons rfl (fun K hK => ?_) AllReadyH.nil
      go_simp
      go_wp2_with fail
      refine hK.out _ _ True.intro (fun hHeld => ?_)
      clear hK K
      refine wpAnyH_done (by kernel_rfl) ?_ _
      go_wp2
      refine bodyPost_ret (results_none rfl _ _ _) rfl ?_
      exact ⟨⟨_, rfl⟩, HFF.out⟩
    · skip
      go_simp
      go_wp2_with fail
      refine hK.out _ _ True.intro (fun hHeld => ?_)
      clear hK K
      refine wpAnyH_ready (rs := [4, 6]) (by kernel_rfl) (by simp) ?_
      refine AllReadyH.cons rfl (fun K hK => ?_) (AllReadyH.cons rfl (fun K hK => ?_) AllReadyH.nil)
      · skip
        go_simp
        go_wp2_with fail
        refine hK.out _ _ True.intro (fun hHeld => ?_)
        clear hK K
        refine wpAnyH_ready (rs := [6]) (by kernel_rfl) (by simp) ?_
        refine AllReadyH.cons rfl (fun K hK => ?_) AllReadyH.nil
        go_simp
        go_wp2_with fail
        refine hK.out _ _ True.intro (fun hHeld => ?_)
        clear hK K
        refine wpAnyH_ready (rs := [7]) (by kernel_rfl) (by simp) ?_
        refine AllReadyH.cons (o := _) (by simp only [List.getElem?_toArray, List.getElem?_cons_succ, List.getElem?_cons_zero]; rfl) (fun K hK => ?_) AllReadyH.nil
        refine wpH_append (by rfl) rfl rfl rfl hrun ?_
        refine hK.out _ _ True.intro (fun hHeld => ?_)
        clear hK K
        simp only [Act.put, List.setIfInBounds_toArray, List.set_cons_zero, List.set_cons_succ]
        refine wpAnyH_take (i := 8) (oi := _) (v := _) (by simp only [List.getElem?_toArray, List.getElem?_cons_succ, List.getElem?_cons_zero]; rfl) (by kernel_rfl) (by kernel_rfl) (by kernel_rfl) (by exact fun _ _ _ h => h) (Or.inl ⟨by rfl, by intro w' hSw; (try dsimp only at hSw); first | (go_simp; done) | (go_simp; with_reducible rfl)⟩) hHeld ?_
        simp only [Act.put, List.setIfInBounds_toArray, List.set_cons_zero, List.set_cons_succ]
        refine wpAnyH_take (i := 9) (oi := _) (v := _) (by simp only [List.getElem?_toArray, List.getElem?_cons_succ, List.getElem?_cons_zero]; rfl) (by kernel_rfl) (by kernel_rfl) (by kernel_rfl) (by exact fun _ _ _ h => h) (Or.inl ⟨by rfl, by intro w' hSw; (try dsimp only at hSw); first | (go_simp; done) | (go_simp; with_reducible rfl)⟩) hHeld ?_
        simp only [Act.put, List.setIfInBounds_toArray, List.set_cons_zero, List.set_cons_succ]
        refine wpAnyH_ready (rs := [10]) (by kernel_rfl) (by simp) ?_
        refine AllReadyH.cons rfl (fun K hK => ?_) AllReadyH.nil
        go_simp
        go_wp2_with fail
        refine hK.out _ _ True.intro (fun hHeld => ?_)
        clear hK K
        refine wpAnyH_done (by kernel_rfl) ?_ _
        go_wp2
        refine bodyPost_ret (results_none rfl _ _ _) rfl ?_
        exact ⟨⟨_, rfl⟩, HFF.out⟩
      · skip
        go_simp
        go_wp2_with fail
        refine hK.out _ _ True.intro (fun hHeld => ?_)
        clear hK K
        refine wpAnyH_ready (rs := [4]) (by kernel_rfl) (by simp) ?_
        refine AllReadyH.cons rfl (fun K hK => ?_) AllReadyH.nil
        go_simp
        go_wp2_with fail
        refine hK.out _ _ True.intro (fun hHeld => ?_)
        clear hK K
        refine wpAnyH_ready (rs := [7]) (by kernel_rfl) (by simp) ?_
        refine AllReadyH.cons (o := _) (by simp only [List.getElem?_toArray, List.getElem?_cons_succ, List.getElem?_cons_zero]; rfl) (fun K hK => ?_) AllReadyH.nil
        refine wpH_append (by rfl) rfl rfl rfl hrun ?_
        refine hK.out _ _ True.intro (fun hHeld => ?_)
        clear hK K
        simp only [Act.put, List.setIfInBounds_toArray, List.set_cons_zero, List.set_cons_succ]
        refine wpAnyH_take (i := 8) (oi := _) (v := _) (by simp only [List.getElem?_toArray, List.getElem?_cons_succ, List.getElem?_cons_zero]; rfl) (by kernel_rfl) (by kernel_rfl) (by kernel_rfl) (by exact fun _ _ _ h => h) (Or.inl ⟨by rfl, by intro w' hSw; (try dsimp only at hSw); first | (go_simp; done) | (go_simp; with_reducible rfl)⟩) hHeld ?_
        simp only [Act.put, List.setIfInBounds_toArray, List.set_cons_zero, List.set_cons_succ]
        refine wpAnyH_take (i := 9) (oi := _) (v := _) (by simp only [List.getElem?_toArray, List.getElem?_cons_succ, List.getElem?_cons_zero]; rfl) (by kernel_rfl) (by kernel_rfl) (by kernel_rfl) (by exact fun _ _ _ h => h) (Or.inl ⟨by rfl, by intro w' hSw; (try dsimp only at hSw); first | (go_simp; done) | (go_simp; with_reducible rfl)⟩) hHeld ?_
        simp only [Act.put, List.setIfInBounds_toArray, List.set_cons_zero, List.set_cons_succ]
        refine wpAnyH_ready (rs := [10]) (by kernel_rfl) (by simp) ?_
        refine AllReadyH.cons rfl (fun K hK => ?_) AllReadyH.nil
        go_simp
        go_wp2_with fail
        refine hK.out _ _ True.intro (fun hHeld => ?_)
        clear hK K
        refine wpAnyH_done (by kernel_rfl) ?_ _
        go_wp2
        refine bodyPost_ret (results_none rfl _ _ _) rfl ?_
        exact ⟨⟨_, rfl⟩, HFF.out⟩
  case true =>
    have HVC : Hid (vc = .slice ac d.cache.length capc) := hvc
    have hzne : vc.ownBlock ≠ some w.heap.size := fun e => by have := HLT.out _ (HD4.out.sc _ e); omega
    have HCN := HD4.out.cac
    rw [hvc] at hzne HCN
    have m2' := m2
    rw [hw4] at m2'
    go_enter Try.func37, Try.ntmps37
    go_wp2_with fail
    rw [← hw4]
    clear hw4 hvc m2'
    refine (deletefunc_any _ d.cache ⟨k2, s2, d2, t2⟩ w.heap.size HCN hcl HX4.out hzne).mono ?_
    rintro e w5 ⟨v', rfl, hown', hob, hT5⟩
    rw [← HVC.out] at hob hT5
    have HNE : Hid (vc.ownBlock ≠ some b) := fun e => row_ne HD4.out.cac HD4.out.main (by decide) b e rfl
    have HM5 : Hid (w5.heap[b]? = some (.cells (devCells d vl vc vw vk) 56 (0, 0))) := (hT5.block b hbs HNE.out).trans HD4.out.main
    have HX5 : Hid (w5.heap[w.heap.size]? = _) := (hT5.block w.heap.size (lt_of_heap HX4.out) (by rw [HVC.out]; exact hzne)).trans HX4.out
    have n2 : w5.cell? ⟨b, 2, none⟩ = some (.slice ac d.cache.length capc) := by rw [← HVC.out]; exact cell_of_heap HM5.out 2 _ rfl
    have nf : w5.frozen? ⟨b, 2, none⟩ = false := free_of_heap HM5.out 2
    obtain ⟨av, capv, hv', _⟩ := row_slice hown'
    have hT6 : Turn (fun k => k = b ∨ vc.ownBlock = some k) w4 (w5.setCell ⟨b, 2, none⟩ v') := (hT5.mono (fun _ e => .inr e)).setCell b 2 v' (.inl (.inl rfl))
    have HD6 : Hid (DevIn (w5.setCell ⟨b, 2, none⟩ v') (Grow S w4 (w5.setCell ⟨b, 2, none⟩ v')) b { d with cache := filt s2 d.cache } vl v' vw vk) :=
      HD4.out.caches hT6 { d with cache := filt s2 d.cache } v' (set_main HM5.out 2 v') (row_turn hown' (turn_set w5 b 2 v') (fun g e => row_ne hown' HM5.out (by decide) g e)) (.inl (.inl hob)) rfl rfl rfl
    have HT6 : Hid (Turn S w4 (w5.setCell ⟨b, 2, none⟩ v')) := hT6.mono (fun k e => by rcases e with rfl | e; exact HD4.out.sb; exact HD4.out.sc k e)
    have hbz : b ≠ w.heap.size := fun e => by have := HLT.out b HD4.out.sb; omega
    have HX6 : Hid ((w5.setCell ⟨b, 2, none⟩ v').heap[w.heap.size]? = _) := (heap_setCell_other w5 ⟨b, 2, none⟩ w.heap.size _ (fun e => hbz e.symm)).trans HX5.out
    obtain ⟨w6, hw6⟩ : ∃ w6, w6 = w5.setCell ⟨b, 2, none⟩ v' := ⟨_, rfl⟩
    rw [← hw6] at HD6 HT6 HX6
    have HS65 : Hid (w6.heap.size = w5.heap.size) := by show _ = _; rw [hw6]; simp
    obtain ⟨b0, b1, b2, b3, _⟩ := agg4 HX6.out
    have b0' := b0
    have b1' := b1
    have b2' := b2
    have b3' := b3
    rw [hw6] at b0' b1' b2' b3'
    clear hown' hob hT5 hT6
    subst hv'
    go_wp2_with fail
    rw [← hw6]
    clear hw6 b0' b1' b2' b3' n2 nf
    have HB7 : Hid (Below w6.heap.size w6 (w6.alloc (Obj.cells #[.int .i64 k2, .int .i64 s2, .string d2, .int .i64 t2] 37))) := (Below.refl _ _).alloc (Nat.le_refl _) _
    have HRL := World.ownsRow_lit (base := 0) (e := 37) (size := 4) w6 #[.int .i64 k2, .int .i64 s2, .string d2, .int .i64 t2] 1 (Nat.zero_le _) (by decide) rfl
    rw [HS65.out] at HRL
    refine (settle_any (HD6.out.below HB7.out) (.slice (some ⟨w5.heap.size, 0, none⟩) 1 1) [⟨k2, s2, d2, t2⟩] HRL (by intro c hc; simp only [List.mem_cons, List.not_mem_nil, or_false] at hc; subst hc; exact HS.out) (by simp) hll).mono ?_
    rintro e w8 ⟨⟨u, rfl⟩, hD8, hT8⟩
    have h64 : w4.heap.size ≤ w6.heap.size := HT6.out.size
    have h86 : w6.heap.size ≤ w8.heap.size := Nat.le_trans HB7.out.size hT8.size
    have HFF : Hid (DevAt w8 (Grow S w w8) b (writeF d ⟨k2, s2, d2, t2⟩ true) ∧ Turn S w w8) := by
      refine ⟨⟨_, _, _, _, hD8.grow (fun k hk => Grow.grow HB4.out.size h86 (by have := HB4.out.size; simp; omega) k hk) (fun k hk => Grow.lt HLT.out (by have := HB4.out.size; omega) k hk)⟩, ?_⟩
      refine (Turn.of_below HB4.out).trans ?_
      refine (HT6.out.mono (fun k hk => .inl hk)).trans ?_
      refine (Turn.of_below HB7.out).trans ?_
      exact hT8.mono (fun k e => .inl (.inl (.inl (HD4.out.sl k e))))
    clear hD8 hT8
    go_wp2
    go_end0
    exact ⟨⟨_, rfl⟩, HFF.out⟩

end Go.Proofs.Ytkfphmhnaelflaa.Nv
