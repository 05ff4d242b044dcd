/-
  BitsApart: the walk. Condition: the table of four steps holds what its initialiser lays.
-/
import Derived.Test.YtkflhakgfpiiaaaDoorBtC
import Derived.Deep.RegionHeld3
namespace Go.Proofs.YtkflhakgfpiiaaaDoor.Bt
open Go.ChangeShapes Go.WideShapes Go.ChangeAt Go.RowKit
open Go.Proofs.YtkflhakgfpiiaaaDoor.Mk (NibAt)

set_option maxRecDepth 100000
set_option maxHeartbeats 1000000

theorem andm63 (n : Int) : bits .and .i64 n 63 = n % 64 := Le.i64_and_mask n 6 (by decide)
theorem turn_one {n : Nat} {B : Nat → Nat} {a : Nat} {t : Bool} (o : Int) (ha : a < n) (ht : tk B a = t) : turnE n B a 1 t o = 0 := by
  unfold turnE insideF
  rw [if_pos (by simp only [Bool.and_eq_true, decide_eq_true_eq]; omega), if_pos]
  intro x hx
  have : x = 0 := by simp at hx; omega
  subst this
  simpa using ht
theorem B0_tk (j : Nat) : tk B0 j = false := by unfold tk B0; simp
theorem cnt_one (B : Nat → Nat) (n a : Nat) (ha : a < n) : cnt (flipsB B a 1) n 0 + (if tk B a = false then 1 else 0) = cnt B n 0 + (if tk B a = true then 1 else 0) := by
  have h := cnt_flip B n 0 a
  have e : flipsB B a 1 = flipB B a := rfl
  rw [e]
  cases ht : tk B a
  · rw [ht] at h
    rw [if_pos ⟨by omega, by omega, rfl⟩, if_neg (fun h => by cases h.2.2)] at h
    simpa using h
  · rw [ht] at h
    rw [if_neg (fun h => by cases h.2.2), if_pos ⟨by omega, by omega, rfl⟩] at h
    simpa using h
theorem tk_one (B : Nat → Nat) (a j : Nat) : tk (flipsB B a 1) j = if j = a then !tk B a else tk B j := tk_flip B a j
theorem has_in {n : Nat} (B : Nat → Nat) {j : Nat} (hj : j < n) : (decide (0 ≤ (j : Int)) && decide ((j : Int) < n) && tk B (j : Int).toNat) = tk B j := by
  rw [decide_eq_true (by omega), decide_eq_true (by omega)]; rfl

theorem bitsApart_walk (n0 a0 b0 : Int) (w : World) (hn : NibAt w) :
    Calls Tryd.prog 6 #[.int .i64 n0, .int .i64 a0, .int .i64 b0] w fun r w' => r = .returned (.bool true) ∧ Below w.heap.size w w' := by
  have HN : Hid (NibAt w) := hn
  clear hn
  obtain ⟨n, hnn, hn1, hn64⟩ : ∃ n : Nat, wrap64 (2 + bits BinOp.and IntKind.i64 n0 63) = n ∧ 2 ≤ n ∧ n ≤ 65 := ⟨(2 + n0 % 64).toNat, by rw [andm63]; unfold wrap64; omega, by omega, by omega⟩
  have HNN : Hid (_ = (n : Int)) := hnn
  clear hnn
  have hmod : ∀ x0 : Int, ∃ x : Nat, (IntKind.i64.wrap (x0.tmod n + n)).tmod n = (x : Int) ∧ x < n := fun x0 => by
    obtain ⟨h1, h2⟩ := Le.tmod_bounds x0 n (by omega)
    rw [IntWalk.i64_in _ (by omega), Int.tmod_eq_emod_of_nonneg (by omega)]
    have h3 := Int.emod_nonneg (x0.tmod n + n) (show (n : Int) ≠ 0 by omega)
    have h4 := Int.emod_lt_of_pos (x0.tmod n + n) (show (0 : Int) < n by omega)
    exact ⟨((x0.tmod n + n) % n).toNat, by omega, by omega⟩
  obtain ⟨x, hx, hxn⟩ := hmod a0
  obtain ⟨y, hy, hyn⟩ := hmod b0
  have HX : Hid (_ = (x : Int)) := hx
  have HY : Hid (_ = (y : Int)) := hy
  clear hx hy hmod
  have hnz : ¬ n = 0 := by omega
  go_enter Tryd.func6, Tryd.ntmps6
  go_wp2_with fail
  refine (speaks_any _ HN.out).mono ?_
  rintro r w1 ⟨rfl, hb1⟩
  have HB1 : Hid (Below w.heap.size w w1) := hb1
  clear hb1
  go_wp2_with fail
  rw [HNN.out]
  refine wp_region_held_drew (S := fun _ => True) (by kernel_rfl) (by exact True.intro) (fun hHeld => ?_)
  change wpAnyH _ _ _ _ _ 16 (Array.replicate 16 false) _ _
  refine wpAnyH_take (i := 0) (oi := _) (v := _) (by simp only [List.getElem?_toArray, List.getElem?_cons_zero]; rfl) (by kernel_rfl) (by kernel_rfl) (by kernel_rfl) (by exact fun _ _ _ h => h) (Or.inl ⟨by rfl, by intro w' hSw; (try dsimp only at hSw); first | (go_simp; done) | (go_simp; with_reducible rfl)⟩) hHeld ?_
  simp only [Act.put, List.setIfInBounds_toArray, List.set_cons_zero, List.set_cons_succ]
  refine wpAnyH_take (i := 1) (oi := _) (v := _) (by simp only [List.getElem?_toArray, List.getElem?_cons_succ, List.getElem?_cons_zero]; rfl) (by kernel_rfl) (by kernel_rfl) (by kernel_rfl) (by exact fun _ _ _ h => h) (Or.inl ⟨by rfl, by intro w' hSw; (try dsimp only at hSw); first | (go_simp; done) | (go_simp; with_reducible rfl)⟩) hHeld ?_
  simp only [Act.put, List.setIfInBounds_toArray, List.set_cons_zero, List.set_cons_succ]
  refine wpAnyH_take (i := 2) (oi := _) (v := _) (by simp only [List.getElem?_toArray, List.getElem?_cons_succ, List.getElem?_cons_zero]; rfl) (by kernel_rfl) (by kernel_rfl) (by kernel_rfl) (by exact fun _ _ _ h => h) (Or.inl ⟨by rfl, by intro w' hSw; (try dsimp only at hSw); first | (go_simp; done) | (go_simp; with_reducible rfl)⟩) hHeld ?_
  simp only [Act.put, List.setIfInBounds_toArray, List.set_cons_zero, List.set_cons_succ]
  refine wpAnyH_take (i := 3) (oi := _) (v := _) (by simp only [List.getElem?_toArray, List.getElem?_cons_succ, List.getElem?_cons_zero]; rfl) (by kernel_rfl) (by kernel_rfl) (by kernel_rfl) (by exact fun _ _ _ h => h) (Or.inl ⟨by rfl, by intro w' hSw; (try dsimp only at hSw); first | (go_simp; done) | (go_simp; with_reducible rfl)⟩) hHeld ?_
  simp only [Act.put, List.setIfInBounds_toArray, List.set_cons_zero, List.set_cons_succ]
  refine wpAnyH_take (i := 4) (oi := _) (v := _) (by simp only [List.getElem?_toArray, List.getElem?_cons_succ, List.getElem?_cons_zero]; rfl) (by kernel_rfl) (by kernel_rfl) (by kernel_rfl) (by exact fun _ _ _ h => h) (Or.inl ⟨by rfl, by intro w' hSw; (try dsimp only at hSw); first | (go_simp; done) | (go_simp; with_reducible rfl)⟩) hHeld ?_
  simp only [Act.put, List.setIfInBounds_toArray, List.set_cons_zero, List.set_cons_succ]
  refine wpAnyH_take (i := 5) (oi := _) (v := _) (by simp only [List.getElem?_toArray, List.getElem?_cons_succ, List.getElem?_cons_zero]; rfl) (by kernel_rfl) (by kernel_rfl) (by kernel_rfl) (by exact fun _ _ _ h => h) (Or.inl ⟨by rfl, by intro w' hSw; (try dsimp only at hSw); first | (go_simp; done) | (go_simp; with_reducible rfl)⟩) hHeld ?_
  simp only [Act.put, List.setIfInBounds_toArray, List.set_cons_zero, List.set_cons_succ]
  refine wpAnyH_take (i := 6) (oi := _) (v := _) (by simp only [List.getElem?_toArray, List.getElem?_cons_succ, List.getElem?_cons_zero]; rfl) (by kernel_rfl) (by kernel_rfl) (by kernel_rfl) (by exact fun _ _ _ h => h) (Or.inl ⟨by rfl, by intro w' hSw; (try dsimp only at hSw); first | (go_simp; done) | (go_simp; with_reducible rfl)⟩) hHeld ?_
  simp only [Act.put, List.setIfInBounds_toArray, List.set_cons_zero, List.set_cons_succ]
  refine wpAnyH_take (i := 7) (oi := _) (v := _) (by simp only [List.getElem?_toArray, List.getElem?_cons_succ, List.getElem?_cons_zero]; rfl) (by kernel_rfl) (by kernel_rfl) (by kernel_rfl) (by exact fun _ _ _ h => h) (Or.inl ⟨by rfl, by intro w' hSw; (try dsimp only at hSw); first | (go_simp; done) | (go_simp; with_reducible rfl)⟩) hHeld ?_
  simp only [Act.put, List.setIfInBounds_toArray, List.set_cons_zero, List.set_cons_succ]
  refine wpAnyH_take (i := 8) (oi := _) (v := _) (by simp only [List.getElem?_toArray, List.getElem?_cons_succ, List.getElem?_cons_zero]; rfl) (by kernel_rfl) (by kernel_rfl) (by kernel_rfl) (by exact fun _ _ _ h => h) (Or.inl ⟨by rfl, by intro w' hSw; (try dsimp only at hSw); first | (go_simp; done) | (go_simp; with_reducible rfl)⟩) hHeld ?_
  simp only [Act.put, List.setIfInBounds_toArray, List.set_cons_zero, List.set_cons_succ]
  refine wpAnyH_take (i := 9) (oi := _) (v := _) (by simp only [List.getElem?_toArray, List.getElem?_cons_succ, List.getElem?_cons_zero]; rfl) (by kernel_rfl) (by kernel_rfl) (by kernel_rfl) (by exact fun _ _ _ h => h) (Or.inl ⟨by rfl, by intro w' hSw; (try dsimp only at hSw); first | (go_simp; done) | (go_simp; with_reducible rfl)⟩) hHeld ?_
  simp only [Act.put, List.setIfInBounds_toArray, List.set_cons_zero, List.set_cons_succ]
  refine wpAnyH_take (i := 10) (oi := _) (v := _) (by simp only [List.getElem?_toArray, List.getElem?_cons_succ, List.getElem?_cons_zero]; rfl) (by kernel_rfl) (by kernel_rfl) (by kernel_rfl) (by exact fun _ _ _ h => h) (Or.inl ⟨by rfl, by intro w' hSw; (try dsimp only at hSw); first | (go_simp; done) | (go_simp; with_reducible rfl)⟩) hHeld ?_
  simp only [Act.put, List.setIfInBounds_toArray, List.set_cons_zero, List.set_cons_succ]
  refine wpAnyH_take (i := 11) (oi := _) (v := _) (by simp only [List.getElem?_toArray, List.getElem?_cons_succ, List.getElem?_cons_zero]; rfl) (by kernel_rfl) (by kernel_rfl) (by kernel_rfl) (by exact fun _ _ _ h => h) (Or.inl ⟨by rfl, by intro w' hSw; (try dsimp only at hSw); first | (go_simp; done) | (go_simp; with_reducible rfl)⟩) hHeld ?_
  simp only [Act.put, List.setIfInBounds_toArray, List.set_cons_zero, List.set_cons_succ]
  refine wpAnyH_take (i := 12) (oi := _) (v := _) (by simp only [List.getElem?_toArray, List.getElem?_cons_succ, List.getElem?_cons_zero]; rfl) (by kernel_rfl) (by kernel_rfl) (by kernel_rfl) (by exact fun _ _ _ h => h) (Or.inl ⟨by rfl, by intro w' hSw; (try dsimp only at hSw); first | (go_simp; done) | (go_simp; with_reducible rfl)⟩) hHeld ?_
  simp only [Act.put, List.setIfInBounds_toArray, List.set_cons_zero, List.set_cons_succ]
  refine wpAnyH_take (i := 13) (oi := _) (v := _) (by simp only [List.getElem?_toArray, List.getElem?_cons_succ, List.getElem?_cons_zero]; rfl) (by kernel_rfl) (by kernel_rfl) (by kernel_rfl) (by exact fun _ _ _ h => h) (Or.inl ⟨by rfl, by intro w' hSw; (try dsimp only at hSw); first | (go_simp; done) | (go_simp; with_reducible rfl)⟩) hHeld ?_
  simp only [Act.put, List.setIfInBounds_toArray, List.set_cons_zero, List.set_cons_succ]
  refine wpAnyH_take (i := 14) (oi := _) (v := _) (by simp only [List.getElem?_toArray, List.getElem?_cons_succ, List.getElem?_cons_zero]; rfl) (by kernel_rfl) (by kernel_rfl) (by kernel_rfl) (by exact fun _ _ _ h => h) (Or.inl ⟨by rfl, by intro w' hSw; (try dsimp only at hSw); first | (go_simp; done) | (go_simp; with_reducible rfl)⟩) hHeld ?_
  simp only [Act.put, List.setIfInBounds_toArray, List.set_cons_zero, List.set_cons_succ]
  refine wpAnyH_take (i := 15) (oi := _) (v := _) (by simp only [List.getElem?_toArray, List.getElem?_cons_succ, List.getElem?_cons_zero]; rfl) (by kernel_rfl) (by kernel_rfl) (by kernel_rfl) (by exact fun _ _ _ h => h) (Or.inl ⟨by rfl, by intro w' hSw; (try dsimp only at hSw); first | (go_simp; done) | (go_simp; with_reducible rfl)⟩) hHeld ?_
  simp only [Act.put, List.setIfInBounds_toArray, List.set_cons_zero, List.set_cons_succ]
  refine wpAnyH_done (by kernel_rfl) ?_ _
  rw [HX.out, HY.out]
  have HB1d : Hid (Below w.heap.size w w1.drew) := HB1.out.drew
  clear hHeld HB1
  generalize w1.drew = w1 at *
  go_wp2_with fail
  refine (new_yes n w1 (by rw [decide_eq_true (by omega), decide_eq_true (by omega)]; rfl)).mono ?_
  rintro r w2 ⟨rfl, c, hc, hw2⟩
  have HB2 : Hid (Below w.heap.size w w2) := by rw [hw2]; exact HB1d.out.alloc HB1d.out.size _
  obtain ⟨sb, hsb⟩ : ∃ sb, sb = w1.heap.size := ⟨_, rfl⟩
  have HS2 : Hid (SetAt w2 sb n B0) := ⟨c, by rw [hw2, hsb]; exact heap_alloc_new _ _, hc⟩
  have HSB : Hid (w.heap.size ≤ sb) := by show _ ≤ _; rw [hsb]; exact HB1d.out.size
  clear hw2 hc
  have hT := take_any (.pointer (some ⟨sb, 0, none⟩)) n B0 x 1 w2 (.inr ⟨_, rfl, HS2.out⟩) (by omega)
  go_wp2_with fail
  rw [← hsb]
  clear hsb
  refine hT.mono ?_
  rintro r w3 ⟨rfl, _, hyes⟩
  rw [turn_one 9 hxn (B0_tk x), show errV 0 = .nilIface from rfl]
  obtain ⟨b', hb', hS3, hU3⟩ := hyes (turn_one 9 hxn (B0_tk x))
  cases hb'
  rw [Int.toNat_natCast] at hS3
  have HS3 : Hid (SetAt w3 sb n (flipsB B0 x 1)) := hS3
  have HB3 : Hid (Below w.heap.size w w3) := HB2.out.trans (hU3.below HSB.out HB2.out.size)
  clear hT hyes hS3 hU3 HS2 HB2
  go_wp2_with fail
  refine (copy_any sb n _ w3 HS3.out).mono ?_
  rintro r w4 ⟨rfl, hC4, hb4⟩
  have HS4 : Hid (SetAt w4 sb n (flipsB B0 x 1)) := HS3.out.below hb4 (Nat.le_refl _)
  have HB4 : Hid (Below w.heap.size w w4) := HB3.out.trans (hb4.mono HB3.out.size)
  obtain ⟨cb, hcb⟩ : ∃ cb, cb = w3.heap.size := ⟨_, rfl⟩
  rw [← hcb] at hC4
  have HC4 : Hid (SetAt w4 cb n (flipsB B0 x 1)) := hC4
  have HNE : Hid (sb ≠ cb) := by obtain ⟨c, hc, _⟩ := HS3.out; have := lt_of_heap hc; show sb ≠ cb; omega
  have HCB : Hid (w.heap.size ≤ cb) := by show _ ≤ _; rw [hcb]; exact HB3.out.size
  have HCN : Hid (cnt (flipsB B0 x 1) n 0 = n - 1) := by
    have h := cnt_one B0 n x hxn
    rw [cnt_none _ _ _ B0_tk, B0_tk] at h
    show _ = _
    simp at h
    omega
  have HTX : Hid (tk (flipsB B0 x 1) x = true) := by show _ = _; rw [tk_one, if_pos rfl, B0_tk]; rfl
  clear hC4 hb4 HS3 HB3
  obtain ⟨B1, hB1⟩ : ∃ B1, flipsB B0 x 1 = B1 := ⟨_, rfl⟩
  by_cases hxy : x = y
  · subst hxy
    have hT := give_any (.pointer (some ⟨cb, 0, none⟩)) n (flipsB B0 x 1) x 1 w4 (.inr ⟨_, rfl, HC4.out⟩) (by omega)
    have HC5' : Hid (cnt (flipsB (flipsB B0 x 1) x 1) n 0 = n) := by
      have h := cnt_one (flipsB B0 x 1) n x hxn
      rw [HTX.out, HCN.out] at h
      show _ = _
      simp at h
      omega
    have HT5' : Hid (tk (flipsB (flipsB B0 x 1) x 1) x = false) := by show _ = _; rw [tk_one, if_pos rfl, HTX.out]; rfl
    go_wp2_with fail
    rw [← hcb]
    clear hcb
    refine hT.mono ?_
    rintro r w5 ⟨rfl, _, hyes⟩
    rw [turn_one 8 hxn HTX.out, show errV 0 = .nilIface from rfl]
    obtain ⟨b', hb', hS5, hU5⟩ := hyes (turn_one 8 hxn HTX.out)
    cases hb'
    rw [Int.toNat_natCast] at hS5
    have HC5 : Hid (SetAt w5 cb n (flipsB (flipsB B0 x 1) x 1)) := hS5
    have HS5 : Hid (SetAt w5 sb n (flipsB B0 x 1)) := HS4.out.upd hU5 HNE.out
    have HB5 : Hid (Below w.heap.size w w5) := HB4.out.trans (hU5.below HCB.out HB4.out.size)
    clear hT hyes hS5 hU5 HS4 HB4 HC4 hB1 B1
    have hZ := size_any (.pointer (some ⟨sb, 0, none⟩)) n _ w5 (.inr ⟨_, rfl, HS5.out⟩)
    rw [HCN.out] at hZ
    go_wp2_with fail
    refine hZ.mono ?_
    rintro r w6 ⟨rfl, hb6⟩
    have HS6 : Hid (SetAt w6 sb n (flipsB B0 x 1)) := HS5.out.below hb6 (Nat.le_refl _)
    have HC6 : Hid (SetAt w6 cb n (flipsB (flipsB B0 x 1) x 1)) := HC5.out.below hb6 (Nat.le_refl _)
    have HB6 : Hid (Below w.heap.size w w6) := HB5.out.trans (hb6.mono HB5.out.size)
    clear hZ hb6
    have hZ := size_any (.pointer (some ⟨cb, 0, none⟩)) n _ w6 (.inr ⟨_, rfl, HC6.out⟩)
    rw [HC5'.out] at hZ
    go_wp2_with fail
    refine hZ.mono ?_
    rintro r w7 ⟨rfl, hb7⟩
    have HS7 : Hid (SetAt w7 sb n (flipsB B0 x 1)) := HS6.out.below hb7 (Nat.le_refl _)
    have HC7 : Hid (SetAt w7 cb n (flipsB (flipsB B0 x 1) x 1)) := HC6.out.below hb7 (Nat.le_refl _)
    have HB7 : Hid (Below w.heap.size w w7) := HB6.out.trans (hb7.mono HB6.out.size)
    clear hZ hb7
    have hH := has_any (.pointer (some ⟨sb, 0, none⟩)) n _ x w7 (.inr ⟨_, rfl, HS7.out⟩) (by omega)
    rw [has_in _ hxn, HTX.out] at hH
    have hn1' : ((n - 1 : Nat) : Int) = (n : Int) - 1 := by omega
    go_wp2_with fail
    refine hH.mono ?_
    rintro r w8 ⟨rfl, hb8⟩
    have HS8 : Hid (SetAt w8 sb n (flipsB B0 x 1)) := HS7.out.below hb8 (Nat.le_refl _)
    have HC8 : Hid (SetAt w8 cb n (flipsB (flipsB B0 x 1) x 1)) := HC7.out.below hb8 (Nat.le_refl _)
    have HB8 : Hid (Below w.heap.size w w8) := HB7.out.trans (hb8.mono HB7.out.size)
    clear hH hb8
    have hH := has_any (.pointer (some ⟨cb, 0, none⟩)) n _ x w8 (.inr ⟨_, rfl, HC8.out⟩) (by omega)
    rw [has_in _ hxn, HT5'.out] at hH
    go_wp2_with fail
    refine hH.mono ?_
    rintro r w9 ⟨rfl, hb9⟩
    have HB9 : Hid (Below w.heap.size w w9) := HB8.out.trans (hb9.mono HB8.out.size)
    clear hH hb9
    go_wp2
    go_ret
    exact ⟨rfl, HB9.out⟩
  · have hxyb : ((x : Int) == (y : Int)) = false := by simp; omega
    have hxyn : (x == y) = false := by simpa using hxy
    have HTY : Hid (tk (flipsB B0 x 1) y = false) := by show _ = _; rw [tk_one, if_neg (fun h => hxy h.symm), B0_tk]
    have hT := take_any (.pointer (some ⟨cb, 0, none⟩)) n (flipsB B0 x 1) y 1 w4 (.inr ⟨_, rfl, HC4.out⟩) (by omega)
    have HC5' : Hid (cnt (flipsB (flipsB B0 x 1) y 1) n 0 = n - 2) := by
      have h := cnt_one (flipsB B0 x 1) n y hyn
      rw [HTY.out, HCN.out] at h
      show _ = _
      simp at h
      omega
    have HT5' : Hid (tk (flipsB (flipsB B0 x 1) y 1) y = true) := by show _ = _; rw [tk_one, if_pos rfl, HTY.out]; rfl
    go_wp2_with fail
    rw [← hcb]
    clear hcb
    refine hT.mono ?_
    rintro r w5 ⟨rfl, _, hyes⟩
    rw [turn_one 9 hyn HTY.out, show errV 0 = .nilIface from rfl]
    obtain ⟨b', hb', hS5, hU5⟩ := hyes (turn_one 9 hyn HTY.out)
    cases hb'
    rw [Int.toNat_natCast] at hS5
    have HC5 : Hid (SetAt w5 cb n (flipsB (flipsB B0 x 1) y 1)) := hS5
    have HS5 : Hid (SetAt w5 sb n (flipsB B0 x 1)) := HS4.out.upd hU5 HNE.out
    have HB5 : Hid (Below w.heap.size w w5) := HB4.out.trans (hU5.below HCB.out HB4.out.size)
    clear hT hyes hS5 hU5 HS4 HB4 HC4 hB1 B1
    have hZ := size_any (.pointer (some ⟨sb, 0, none⟩)) n _ w5 (.inr ⟨_, rfl, HS5.out⟩)
    rw [HCN.out] at hZ
    go_wp2_with fail
    refine hZ.mono ?_
    rintro r w6 ⟨rfl, hb6⟩
    have HS6 : Hid (SetAt w6 sb n (flipsB B0 x 1)) := HS5.out.below hb6 (Nat.le_refl _)
    have HC6 : Hid (SetAt w6 cb n (flipsB (flipsB B0 x 1) y 1)) := HC5.out.below hb6 (Nat.le_refl _)
    have HB6 : Hid (Below w.heap.size w w6) := HB5.out.trans (hb6.mono HB5.out.size)
    clear hZ hb6
    have hZ := size_any (.pointer (some ⟨cb, 0, none⟩)) n _ w6 (.inr ⟨_, rfl, HC6.out⟩)
    rw [HC5'.out] at hZ
    go_wp2_with fail
    refine hZ.mono ?_
    rintro r w7 ⟨rfl, hb7⟩
    have HS7 : Hid (SetAt w7 sb n (flipsB B0 x 1)) := HS6.out.below hb7 (Nat.le_refl _)
    have HC7 : Hid (SetAt w7 cb n (flipsB (flipsB B0 x 1) y 1)) := HC6.out.below hb7 (Nat.le_refl _)
    have HB7 : Hid (Below w.heap.size w w7) := HB6.out.trans (hb7.mono HB6.out.size)
    clear hZ hb7
    have hH := has_any (.pointer (some ⟨sb, 0, none⟩)) n _ x w7 (.inr ⟨_, rfl, HS7.out⟩) (by omega)
    rw [has_in _ hxn, HTX.out] at hH
    have hn1' : ((n - 1 : Nat) : Int) = (n : Int) - 1 := by omega
    go_wp2_with fail
    refine hH.mono ?_
    rintro r w8 ⟨rfl, hb8⟩
    have HS8 : Hid (SetAt w8 sb n (flipsB B0 x 1)) := HS7.out.below hb8 (Nat.le_refl _)
    have HC8 : Hid (SetAt w8 cb n (flipsB (flipsB B0 x 1) y 1)) := HC7.out.below hb8 (Nat.le_refl _)
    have HB8 : Hid (Below w.heap.size w w8) := HB7.out.trans (hb8.mono HB7.out.size)
    clear hH hb8
    have hH := has_any (.pointer (some ⟨sb, 0, none⟩)) n _ y w8 (.inr ⟨_, rfl, HS8.out⟩) (by omega)
    rw [has_in _ hyn, HTY.out] at hH
    go_wp2_with fail
    refine hH.mono ?_
    rintro r w9 ⟨rfl, hb9⟩
    have HC9 : Hid (SetAt w9 cb n (flipsB (flipsB B0 x 1) y 1)) := HC8.out.below hb9 (Nat.le_refl _)
    have HB9 : Hid (Below w.heap.size w w9) := HB8.out.trans (hb9.mono HB8.out.size)
    clear hH hb9
    have hH := has_any (.pointer (some ⟨cb, 0, none⟩)) n _ y w9 (.inr ⟨_, rfl, HC9.out⟩) (by omega)
    rw [has_in _ hyn, HT5'.out] at hH
    have hn2' : ((n - 2 : Nat) : Int) = (n : Int) - 2 := by omega
    go_wp2_with fail
    refine hH.mono ?_
    rintro r wa ⟨rfl, hba⟩
    have HBa : Hid (Below w.heap.size w wa) := HB9.out.trans (hba.mono HB9.out.size)
    clear hH hba
    go_wp2
    go_ret
    exact ⟨rfl, HBa.out⟩

theorem bitsApart_calls (n a b : Int) (w : World) (_ : (Lit.int .i64 n).wf = true) (_ : (Lit.int .i64 a).wf = true) (_ : (Lit.int .i64 b).wf = true) (hN : NibAt w) :
    Calls Tryd.prog 6 #[.int .i64 n, .int .i64 a, .int .i64 b] w fun r w' => r = .returned (.bool true) ∧ Below w.heap.size w w' := bitsApart_walk n a b w hN

end Go.Proofs.YtkflhakgfpiiaaaDoor.Bt
