/-
  BitsLongest: the walk. Condition: the table of four steps holds what its initialiser lays.
-/
import Derived.Test.YtkflhakgfpiiaaaDoorBtItems
import Derived.Deep.RegionHeld3
namespace Go.Proofs.YtkflhakgfpiiaaaDoor.Bt
open Go.ChangeShapes Go.WideShapes Go.ChangeAt Go.RowKit
open Go.Proofs.YtkflhakgfpiiaaaDoor.Mk (NibAt)

set_option maxRecDepth 100000
set_option maxHeartbeats 1000000

theorem and63 (n : Int) : bits .and .i64 n 63 = n % 64 := Le.i64_and_mask n 6 (by decide)
theorem and3 (n : Int) : bits .and .i64 n 3 = n % 4 := Le.i64_and_mask n 2 (by decide)

theorem bitsLongest_walk (n0 : Int) (a : Option Addr) (len cap : Nat) (L : Nat → Act3) (w : World) (hI : ItemsAt w a len L) (hn : NibAt w) :
    Calls Tryd.prog 5 #[.int .i64 n0, .slice a len cap] w fun r w' => r = .returned (.bool true) ∧ Below w.heap.size w w' := by
  have HI0 : Hid (ItemsAt w a len L) := hI
  have HN : Hid (NibAt w) := hn
  clear hI hn
  obtain ⟨n, hnn, hn1, hn64⟩ : ∃ n : Nat, wrap64 (1 + bits BinOp.and IntKind.i64 n0 63) = n ∧ 1 ≤ n ∧ n ≤ 64 := ⟨(1 + n0 % 64).toNat, by rw [and63]; unfold wrap64; omega, by omega, by omega⟩
  have HNN : Hid (_ = (n : Int)) := hnn
  clear hnn
  go_enter Tryd.func5, Tryd.ntmps5
  go_wp2_with fail
  refine (speaks_any _ HN.out).mono ?_
  rintro r w1 ⟨rfl, hb1⟩
  have HB1 : Hid (Below w.heap.size w w1) := hb1
  clear hb1
  go_wp2_with fail
  rw [HNN.out]
  refine (new_yes n w1 (by rw [decide_eq_true (by omega), decide_eq_true (by omega)]; rfl)).mono ?_
  rintro r w2 ⟨rfl, c, hc, hw2⟩
  have HB2 : Hid (Below w.heap.size w w2) := by rw [hw2]; exact HB1.out.alloc HB1.out.size _
  obtain ⟨sb, hsb⟩ : ∃ sb, sb = w1.heap.size := ⟨_, rfl⟩
  have HS2 : Hid (SetAt w2 sb n B0) := ⟨c, by rw [hw2, hsb]; exact heap_alloc_new _ _, hc⟩
  have HSB : Hid (w.heap.size ≤ sb) := by show _ ≤ _; rw [hsb]; exact HB1.out.size
  clear hw2 hc
  go_wp2_with fail
  rw [← hsb]
  clear hsb
  go_loopw [7] (fun i wr => ∃ (k : Nat) (B : Nat → Nat), (k ≤ len ∧ k ≤ 40) ∧ i = .int .i64 k ∧ SetAt wr sb n B ∧ Below w.heap.size w wr) (fun i _ => 40 - (intOf i).toNat)
  case atStart => exact ⟨0, B0, ⟨Nat.zero_le _, by omega⟩, rfl, HS2.out, HB2.out⟩
  case round =>
    obtain ⟨k, B, ⟨hk1, hk2⟩, rfl, hS, hB⟩ := hrel
    have HS : Hid (SetAt wr sb n B) := hS
    have HBk : Hid (Below w.heap.size w wr) := hB
    clear HS2 HB2 hS hB
    by_cases hlt : k < len ∧ k < 40
    · obtain ⟨hl1, hl2⟩ := hlt
      have hl1' : (k : Int) < (len : Int) := by omega
      have hl2' : (k : Int) < 40 := by omega
      have hIk := HI0.out.below HBk.out (Nat.le_refl _)
      rcases hIk.1 with h0 | ⟨ib, off, rfl, hibl, hc⟩
      · omega
      · obtain ⟨_, i1, i2⟩ := hc k hl1
        obtain ⟨_, q1, q2⟩ := hIk.2 k hl1
        obtain ⟨it, hit⟩ : ∃ it, L k = it := ⟨_, rfl⟩
        have HLk : Hid (L k = it) := hit
        rw [hit] at i1 i2 q1 q2
        clear hIk hc hit
        obtain ⟨iw, ii, im⟩ := it
        dsimp only at i1 i2 q1 q2
        have hnz : ¬ n = 0 := by omega
        obtain ⟨x, hx, hx0, hx1⟩ : ∃ x : Int, (IntKind.i64.wrap (ii.tmod n + n)).tmod n = x ∧ 0 ≤ x ∧ x < n := by
          obtain ⟨h1, h2⟩ := Le.tmod_bounds ii n (by omega)
          rw [IntWalk.i64_in _ (by omega), Int.tmod_eq_emod_of_nonneg (by omega)]
          exact ⟨_, rfl, Int.emod_nonneg _ (by omega), Int.emod_lt_of_pos _ (by omega)⟩
        obtain ⟨y, hy, hy0, hy1⟩ : ∃ y : Int, IntKind.i64.wrap (1 + bits BinOp.and IntKind.i64 im 3) = y ∧ 1 ≤ y ∧ y ≤ 4 := ⟨_, rfl, by rw [and3, IntWalk.i64_in _ (by omega)]; omega, by rw [and3, IntWalk.i64_in _ (by omega)]; omega⟩
        have HX : Hid (_ = x) := hx
        have HY : Hid (_ = y) := hy
        clear hx hy
        have hT := take_any (.pointer (some ⟨sb, 0, none⟩)) n B x y wr.drew (.inr ⟨_, rfl, HS.out⟩) (by omega)
        go_wp2
        refine wp_region_held_drew (S := fun W => W.cell? ⟨ib, off + k * 3 + 1, none⟩ = some (.int .i64 ii) ∧ W.cell? ⟨ib, off + k * 3 + 2, none⟩ = some (.int .i64 im)) (by kernel_rfl) (by exact ⟨i1, i2⟩) (fun hHeld => ?_)
        change wpAnyH _ _ _ _ _ 20 (Array.replicate 20 false) _ _
        refine wpAnyH_take (i := 0) (oi := _) (v := _) (by simp only [List.getElem?_toArray, List.getElem?_cons_zero]; rfl) (by kernel_rfl) (by kernel_rfl) (by kernel_rfl) (by exact fun _ _ _ h => h) (Or.inl ⟨by rfl, by intro w' hSw; (try dsimp only at hSw); first | (go_simp; done) | (go_simp; with_reducible rfl)⟩) hHeld ?_
        simp only [Act.put, List.setIfInBounds_toArray, List.set_cons_zero, List.set_cons_succ]
        refine wpAnyH_take (i := 1) (oi := _) (v := _) (by simp only [List.getElem?_toArray, List.getElem?_cons_succ, List.getElem?_cons_zero]; rfl) (by kernel_rfl) (by kernel_rfl) (by kernel_rfl) (by exact fun _ _ _ h => h) (Or.inl ⟨by rfl, by intro w' hSw; (try dsimp only at hSw); first | (go_simp; done) | (go_simp; with_reducible rfl)⟩) hHeld ?_
        simp only [Act.put, List.setIfInBounds_toArray, List.set_cons_zero, List.set_cons_succ]
        refine wpAnyH_take (i := 2) (oi := _) (v := _) (by simp only [List.getElem?_toArray, List.getElem?_cons_succ, List.getElem?_cons_zero]; rfl) (by kernel_rfl) (by kernel_rfl) (by kernel_rfl) (by exact fun _ _ _ h => h) (Or.inl ⟨by rfl, by intro w' hSw; (try dsimp only at hSw); first | (go_simp; done) | (go_simp; with_reducible rfl)⟩) hHeld ?_
        simp only [Act.put, List.setIfInBounds_toArray, List.set_cons_zero, List.set_cons_succ]
        refine wpAnyH_take (i := 3) (oi := _) (v := _) (by simp only [List.getElem?_toArray, List.getElem?_cons_succ, List.getElem?_cons_zero]; rfl) (by kernel_rfl) (by kernel_rfl) (by kernel_rfl) (by exact fun _ _ _ h => h) (Or.inl ⟨by rfl, by intro w' hSw; (try dsimp only at hSw); first | (go_simp; done) | (go_simp; with_reducible rfl)⟩) hHeld ?_
        simp only [Act.put, List.setIfInBounds_toArray, List.set_cons_zero, List.set_cons_succ]
        refine wpAnyH_take (i := 4) (oi := _) (v := _) (by simp only [List.getElem?_toArray, List.getElem?_cons_succ, List.getElem?_cons_zero]; rfl) (by kernel_rfl) (by kernel_rfl) (by kernel_rfl) (by exact fun _ _ _ h => h) (Or.inl ⟨by rfl, by intro w' hSw; (try dsimp only at hSw); first | (go_simp; done) | (go_simp; with_reducible rfl)⟩) hHeld ?_
        simp only [Act.put, List.setIfInBounds_toArray, List.set_cons_zero, List.set_cons_succ]
        refine wpAnyH_take (i := 5) (oi := _) (v := _) (by simp only [List.getElem?_toArray, List.getElem?_cons_succ, List.getElem?_cons_zero]; rfl) (by kernel_rfl) (by kernel_rfl) (by kernel_rfl) (by exact fun _ _ _ h => h) (Or.inl ⟨by rfl, by intro w' hSw; (try dsimp only at hSw); first | (go_simp; done) | (go_simp; with_reducible rfl)⟩) hHeld ?_
        simp only [Act.put, List.setIfInBounds_toArray, List.set_cons_zero, List.set_cons_succ]
        refine wpAnyH_take (i := 6) (oi := _) (v := _) (by simp only [List.getElem?_toArray, List.getElem?_cons_succ, List.getElem?_cons_zero]; rfl) (by kernel_rfl) (by kernel_rfl) (by kernel_rfl) (by exact fun _ _ _ h => h) (Or.inl ⟨by rfl, by intro w' hSw; (try dsimp only at hSw); first | (go_simp; done) | (go_simp; with_reducible rfl)⟩) hHeld ?_
        simp only [Act.put, List.setIfInBounds_toArray, List.set_cons_zero, List.set_cons_succ]
        refine wpAnyH_take (i := 7) (oi := _) (v := _) (by simp only [List.getElem?_toArray, List.getElem?_cons_succ, List.getElem?_cons_zero]; rfl) (by kernel_rfl) (by kernel_rfl) (by kernel_rfl) (by exact fun _ _ _ h => h) (Or.inl ⟨by rfl, by intro w' hSw; (try dsimp only at hSw); first | (go_simp; done) | (go_simp; with_reducible rfl)⟩) hHeld ?_
        simp only [Act.put, List.setIfInBounds_toArray, List.set_cons_zero, List.set_cons_succ]
        refine wpAnyH_take (i := 8) (oi := _) (v := _) (by simp only [List.getElem?_toArray, List.getElem?_cons_succ, List.getElem?_cons_zero]; rfl) (by kernel_rfl) (by kernel_rfl) (by kernel_rfl) (by exact fun _ _ _ h => h) (Or.inl ⟨by rfl, by intro w' hSw; (try dsimp only at hSw); first | (go_simp; done) | (go_simp; with_reducible rfl)⟩) hHeld ?_
        simp only [Act.put, List.setIfInBounds_toArray, List.set_cons_zero, List.set_cons_succ]
        refine wpAnyH_take (i := 9) (oi := _) (v := _) (by simp only [List.getElem?_toArray, List.getElem?_cons_succ, List.getElem?_cons_zero]; rfl) (by kernel_rfl) (by kernel_rfl) (by kernel_rfl) (by exact fun _ _ _ h => h) (Or.inl ⟨by rfl, by intro w' hSw; (try dsimp only at hSw); first | (go_simp; done) | (go_simp; with_reducible rfl)⟩) hHeld ?_
        simp only [Act.put, List.setIfInBounds_toArray, List.set_cons_zero, List.set_cons_succ]
        refine wpAnyH_take (i := 10) (oi := _) (v := _) (by simp only [List.getElem?_toArray, List.getElem?_cons_succ, List.getElem?_cons_zero]; rfl) (by kernel_rfl) (by kernel_rfl) (by kernel_rfl) (by exact fun _ _ _ h => h) (Or.inl ⟨by rfl, by intro w' hSw; (try dsimp only at hSw); first | (go_simp; done) | (go_simp; with_reducible rfl)⟩) hHeld ?_
        simp only [Act.put, List.setIfInBounds_toArray, List.set_cons_zero, List.set_cons_succ]
        refine wpAnyH_take (i := 11) (oi := _) (v := _) (by simp only [List.getElem?_toArray, List.getElem?_cons_succ, List.getElem?_cons_zero]; rfl) (by kernel_rfl) (by kernel_rfl) (by kernel_rfl) (by exact fun _ _ _ h => h) (Or.inl ⟨by rfl, by intro w' hSw; (try dsimp only at hSw); first | (go_simp; done) | (go_simp; with_reducible rfl)⟩) hHeld ?_
        simp only [Act.put, List.setIfInBounds_toArray, List.set_cons_zero, List.set_cons_succ]
        refine wpAnyH_take (i := 12) (oi := _) (v := _) (by simp only [List.getElem?_toArray, List.getElem?_cons_succ, List.getElem?_cons_zero]; rfl) (by kernel_rfl) (by kernel_rfl) (by kernel_rfl) (by exact fun _ _ _ h => h) (Or.inl ⟨by rfl, by intro w' hSw; (try dsimp only at hSw); first | (go_simp; done) | (go_simp; with_reducible rfl)⟩) hHeld ?_
        simp only [Act.put, List.setIfInBounds_toArray, List.set_cons_zero, List.set_cons_succ]
        refine wpAnyH_take (i := 13) (oi := _) (v := _) (by simp only [List.getElem?_toArray, List.getElem?_cons_succ, List.getElem?_cons_zero]; rfl) (by kernel_rfl) (by kernel_rfl) (by kernel_rfl) (by exact fun _ _ _ h => h) (Or.inl ⟨by rfl, by intro w' hSw; (try dsimp only at hSw); first | (go_simp; done) | (go_simp; with_reducible rfl)⟩) hHeld ?_
        simp only [Act.put, List.setIfInBounds_toArray, List.set_cons_zero, List.set_cons_succ]
        refine wpAnyH_take (i := 14) (oi := _) (v := _) (by simp only [List.getElem?_toArray, List.getElem?_cons_succ, List.getElem?_cons_zero]; rfl) (by kernel_rfl) (by kernel_rfl) (by kernel_rfl) (by exact fun _ _ _ h => h) (Or.inl ⟨by rfl, by intro w' hSw; (try dsimp only at hSw); first | (go_simp; done) | (go_simp; with_reducible rfl)⟩) hHeld ?_
        simp only [Act.put, List.setIfInBounds_toArray, List.set_cons_zero, List.set_cons_succ]
        refine wpAnyH_take (i := 15) (oi := _) (v := _) (by simp only [List.getElem?_toArray, List.getElem?_cons_succ, List.getElem?_cons_zero]; rfl) (by kernel_rfl) (by kernel_rfl) (by kernel_rfl) (by exact fun _ _ _ h => h) (Or.inl ⟨by rfl, by intro w' hSw; (try dsimp only at hSw); first | (go_simp; done) | (go_simp; with_reducible rfl)⟩) hHeld ?_
        simp only [Act.put, List.setIfInBounds_toArray, List.set_cons_zero, List.set_cons_succ]
        refine wpAnyH_take (i := 16) (oi := _) (v := _) (by simp only [List.getElem?_toArray, List.getElem?_cons_succ, List.getElem?_cons_zero]; rfl) (by kernel_rfl) (by kernel_rfl) (by kernel_rfl) (by exact fun _ _ _ h => h) (Or.inl ⟨by rfl, by intro w' hSw; (try dsimp only at hSw); first | (go_simp; done) | (go_simp; with_reducible rfl)⟩) hHeld ?_
        simp only [Act.put, List.setIfInBounds_toArray, List.set_cons_zero, List.set_cons_succ]
        refine wpAnyH_take (i := 17) (oi := _) (v := _) (by simp only [List.getElem?_toArray, List.getElem?_cons_succ, List.getElem?_cons_zero]; rfl) (by kernel_rfl) (by kernel_rfl) (by kernel_rfl) (by exact fun _ _ _ h => h) (Or.inl ⟨by rfl, by intro w' hSw; (try dsimp only at hSw); first | (go_simp; done) | (go_simp; with_reducible rfl)⟩) hHeld ?_
        simp only [Act.put, List.setIfInBounds_toArray, List.set_cons_zero, List.set_cons_succ]
        refine wpAnyH_take (i := 18) (oi := _) (v := _) (by simp only [List.getElem?_toArray, List.getElem?_cons_succ, List.getElem?_cons_zero]; rfl) (by kernel_rfl) (by kernel_rfl) (by kernel_rfl) (by exact fun _ _ _ h => h) (Or.inl ⟨by rfl, by intro w' hSw; (try dsimp only at hSw); first | (go_simp; done) | (go_simp; with_reducible rfl)⟩) hHeld ?_
        simp only [Act.put, List.setIfInBounds_toArray, List.set_cons_zero, List.set_cons_succ]
        refine wpAnyH_ready (rs := [19]) (by kernel_rfl) (by simp) ?_
        refine AllReadyH.cons rfl (fun K hK => ?_) AllReadyH.nil
        go_simp
        go_wp2_with fail
        rw [HX.out, HY.out]
        refine hT.mono ?_
        rintro r w4 ⟨rfl, hno, hyes⟩
        have HT4 : Hid (∃ B', SetAt w4 sb n B' ∧ Below w.heap.size w w4) := by
          by_cases h0 : turnE n B x y false 9 = 0
          · obtain ⟨b', hb', hS', hU'⟩ := hyes h0
            cases hb'
            exact ⟨_, hS', HBk.out.drew.trans (hU'.below (by have := HSB.out; omega) HBk.out.drew.size)⟩
          · exact ⟨B, HS.out.below ((Below.refl _ _).drew.trans (hno h0)) (Nat.le_refl _), HBk.out.drew.trans ((hno h0).mono HBk.out.drew.size)⟩
        have HI4 : Hid (ItemsAt w4 (some ⟨ib, off, none⟩) len L) := by obtain ⟨B', _, hb'⟩ := HT4.out; exact HI0.out.below hb' (Nat.le_refl _)
        obtain ⟨ev4, hev4⟩ : ∃ ev4, errV (turnE n B x y false 9) = ev4 := ⟨_, rfl⟩
        rw [hev4]
        have hH4 : w4.cell? ⟨ib, off + k * 3 + 1, none⟩ = some (.int .i64 ii) ∧ w4.cell? ⟨ib, off + k * 3 + 2, none⟩ = some (.int .i64 im) := by
          rcases HI4.out.1 with h0 | ⟨ib', off', e, _, hc⟩
          · omega
          · cases e; obtain ⟨_, h1, h2⟩ := hc k hl1; rw [HLk.out] at h1 h2; exact ⟨h1, h2⟩
        refine hK.out _ _ hH4 (fun hHeld => ?_)
        clear hK K hno hyes hT hev4
        refine wpAnyH_done (by kernel_rfl) ?_ _
        go_wp2
        go_roundw
        case rel => obtain ⟨B', hS', hB'⟩ := HT4.out; exact ⟨k + 1, B', ⟨by omega, by omega⟩, by go_num, hS', hB'⟩
        case measure => simp [intOf]; omega
    · have hend : (k : Int) < (len : Int) → ¬ (k : Int) < 40 := fun h1 h2 => hlt ⟨by omega, by omega⟩
      clear hlt HI0
      have hV := fun (w : World) (h : SetAt w sb n B) => (Or.inr ⟨sb, rfl, h⟩ : SetV w (.pointer (some ⟨sb, 0, none⟩)) n B)
      have hL := longest_any _ n B wr (hV _ HS.out)
      have HFST : Hid (0 < (longF (runsL B n n 0) (0, 0)).2 → runG B n (longF (runsL B n n 0) (0, 0)).2 0 = some (longF (runsL B n n 0) (0, 0)).1) := fun h => by
        unfold runG
        rw [if_neg (by omega)]
        exact longF_first _ _ h
      have HNON : Hid (runG B n (((longF (runsL B n n 0) (0, 0)).2 : Int) + 1) 0 = none) := by
        show _ = _
        unfold runG
        rw [if_neg (by omega)]
        exact longF_none _ _
      have HZER : Hid ((longF (runsL B n n 0) (0, 0)).2 = 0 → longF (runsL B n n 0) (0, 0) = (0, 0) ∧ cnt B n 0 = 0) := fun h => by
        have h1 := longF_zero _ (fun x hx => (runsL_pos B n n 0 x hx).1) h
        have h2 := sum_runs B n n 0 (by omega)
        rw [h1] at h2 ⊢
        exact ⟨rfl, by simpa [sumL] using h2.symm⟩
      have HSUM : Hid ((longF (runsL B n n 0) (0, 0)).2 ≤ cnt B n 0) := by
        show _ ≤ _
        have h1 := longF_sum (runsL B n n 0) (0, 0)
        rw [sum_runs B n n 0 (by omega)] at h1
        simpa using h1
      have hcl := cnt_le B n 0
      generalize longF (runsL B n n 0) (0, 0) = s at *
      obtain ⟨at_, long⟩ := s
      dsimp only at hL HFST HNON HZER HSUM
      have hSz := fun w h => size_any _ n B w (hV w h)
      generalize cnt B n 0 = fr at *
      by_cases hA : (k : Int) < (len : Int)
      all_goals
        go_wp2_with fail
        refine hL.mono ?_
        rintro r w3 ⟨rfl, hb3⟩
        have HS3 : Hid (SetAt w3 sb n B) := HS.out.below hb3 (Nat.le_refl _)
        have HB3 : Hid (Below w.heap.size w w3) := HBk.out.trans (hb3.mono HBk.out.size)
        clear hb3 hL hend hA
        go_wp2_with fail
        refine (hSz _ HS3.out).mono ?_
        rintro r w4 ⟨rfl, hb4⟩
        have HS4 : Hid (SetAt w4 sb n B) := HS3.out.below hb4 (Nat.le_refl _)
        have HB4 : Hid (Below w.heap.size w w4) := HB3.out.trans (hb4.mono HB3.out.size)
        clear hb4 hSz
        by_cases hl0 : long = 0
        · obtain ⟨e1, rfl⟩ := HZER.out hl0
          cases e1
          go_wp2
          go_ret
          exact ⟨rfl, HB4.out⟩
        · have hR := run_any _ n B long 0 w4 (hV _ HS4.out) (by decide)
          rw [HFST.out (by omega), show optN (some at_) = .tuple #[.int .i64 at_, .bool true] from rfl] at hR
          have hlz : ((long : Int) == 0) = false := by simp; omega
          go_wp2_with fail
          refine hR.mono ?_
          rintro r w5 ⟨rfl, hb5⟩
          have HS5 : Hid (SetAt w5 sb n B) := HS4.out.below hb5 (Nat.le_refl _)
          have HB5 : Hid (Below w.heap.size w w5) := HB4.out.trans (hb5.mono HB4.out.size)
          clear hb5 hR
          have hR := run_any _ n B ((long : Int) + 1) 0 w5 (hV _ HS5.out) (by decide)
          rw [HNON.out, show optN none = .tuple #[.int .i64 0, .bool false] from rfl] at hR
          have hls := HSUM.out
          go_wp2_with fail
          refine hR.mono ?_
          rintro r w6 ⟨rfl, hb6⟩
          have HB6 : Hid (Below w.heap.size w w6) := HB5.out.trans (hb6.mono HB5.out.size)
          clear hb6 hR
          have hge : (long : Int) ≤ (fr : Int) := by omega
          go_wp2
          go_ret
          exact ⟨rfl, HB6.out⟩

theorem bitsLongest_calls {H : Type} {enc : TypeId × Value → H} {sp : Nat → Bool} {held : Bool} {d : DataW H} {p : List MemPlace} (n : Int) (a : Option Addr) (len cap : Nat) (w : World) (_ : (Lit.int .i64 n).wf = true)
    (h : DataW.Trod enc Tryd.prog w 0 sp held 22 (.slice a len cap) d p) (hN : NibAt w) :
    Calls Tryd.prog 5 #[.int .i64 n, .slice a len cap] w fun e w' => e = .returned (.bool true) ∧ Below w.heap.size w w' := by
  obtain ⟨L, hI, _⟩ := items_of_trod h
  exact bitsLongest_walk n a len cap L w hI hN

end Go.Proofs.YtkflhakgfpiiaaaDoor.Bt
