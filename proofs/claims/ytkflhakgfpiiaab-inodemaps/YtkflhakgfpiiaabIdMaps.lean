/-
  InodeMaps: the walk. No condition.
-/
import Derived.Test.YtkflhakgfpiiaabIdBoth
namespace Go.Proofs.Ytkflhakgfpiiaab.Id
open Go.ChangeShapes Go.WideShapes Go.ChangeAt Go.RowKit Go.Proofs.Fa

variable {w : World} {B : Nat}
set_option maxRecDepth 100000
set_option maxHeartbeats 1000000

theorem optV_no : optV none = .tuple #[.int .i64 0, .bool false] := rfl
theorem optV_yes (x : Int) : optV (some x) = .tuple #[.int .i64 x, .bool true] := rfl

theorem inodeMaps_walk (a : Option Addr) (len cap : Nat) (L : Nat → Ext) (block sector : Int) (w : World) (hI : ItemsAt w a len L)
    (hblk : -9223372036854775808 ≤ block ∧ block ≤ 9223372036854775807) (hsec : -9223372036854775808 ≤ sector ∧ sector ≤ 9223372036854775807) :
    Calls Try.prog 3 #[.slice a len cap, .int .i64 block, .int .i64 sector] w fun r w' => r = .returned (.bool true) ∧ Below w.heap.size w w' := by
  have HI0 : Hid (ItemsAt w a len L) := hI
  clear hI
  go_enter Try.func3, Try.ntmps3
  go_wp2_with fail
  refine (speaks_any _).mono ?_
  rintro r w1 ⟨rfl, hb1⟩
  have HB1 : Hid (Below w.heap.size w w1) := hb1
  clear hb1
  go_wp2_with fail
  refine (both_any (w := w1) 0 a len cap L (HI0.out.below HB1.out (Nat.le_refl _))).mono ?_
  rintro r w2 ⟨⟨av, bv, rfl, hra, hrb⟩, hb2⟩
  obtain ⟨l, hl⟩ : ∃ l, lst L (min len 40) = l := ⟨_, rfl⟩
  have HWF : Hid (∀ e ∈ l, -9223372036854775808 ≤ e.len ∧ e.len ≤ 9223372036854775807) := by
    intro e he
    rw [← hl] at he
    obtain ⟨i, hi, rfl⟩ := List.mem_map.1 he
    have h2 := (HI0.out.2 i (by have := List.mem_range.1 hi; omega)).2
    simp only [Lit.wf, IntKind.min, IntKind.max, IntKind.signed, IntKind.bits, Bool.and_eq_true, decide_eq_true_eq, if_true] at h2
    omega
  obtain ⟨n, hn⟩ : ∃ n, l.length = n := ⟨_, rfl⟩
  have hn40 : n ≤ 40 := by rw [← hn, ← hl, lst_length]; omega
  rw [hl] at hra hrb
  obtain ⟨aa, ac, hav, _⟩ := row_slice hra
  obtain ⟨ba, bc, hbv, _⟩ := row_slice hrb
  rw [hn] at hav hbv
  subst hav hbv
  rw [show ino 0 (.slice aa n ac) = .agg #[.int .i64 0, .slice aa n ac] from rfl, show ino 0 (.slice ba n bc) = .agg #[.int .i64 0, .slice ba n bc] from rfl]
  obtain ⟨w3, hw3⟩ : ∃ w3, w3 = (w2.alloc (Obj.cells #[.int .i64 0, .slice aa n ac] 26)).alloc (Obj.cells #[.int .i64 0, .slice ba n bc] 29) := ⟨_, rfl⟩
  have hb3 : Below w2.heap.size w2 w3 := by rw [hw3]; exact ((Below.refl _ _).alloc (Nat.le_refl _) _).alloc (by simp) _
  obtain ⟨ab, hab⟩ : ∃ ab, ab = w2.heap.size := ⟨_, rfl⟩
  have HX3 : Hid (w3.heap[ab]? = some (.cells #[.int .i64 0, .slice aa n ac] 26 (0, 0))) := by rw [hw3, hab]; exact (Below.heap_alloc _ _ _ (by simp)).trans (heap_alloc_new _ _)
  have HY3 : Hid (w3.heap[ab + 1]? = some (.cells #[.int .i64 0, .slice ba n bc] 29 (0, 0))) := by
    rw [hw3, hab]
    have := heap_alloc_new (w2.alloc (Obj.cells #[.int .i64 0, .slice aa n ac] 26)) (Obj.cells #[.int .i64 0, .slice ba n bc] 29)
    rw [World.size_alloc] at this
    exact this
  have HB3 : Hid (Below w.heap.size w w3) := (HB1.out.trans (hb2.mono HB1.out.size)).trans (hb3.mono (HB1.out.trans (hb2.mono HB1.out.size)).size)
  have HA3 : Hid (Row w3 0 (.slice aa n ac) l) := row_base (row_below hra hb3 (Nat.le_refl _)) (Nat.zero_le _)
  have HR3 : Hid (RowR w3 0 (.slice ba n bc) l) := row_base (row_below hrb hb3 (Nat.le_refl _)) (Nat.zero_le _)
  have hRt := refright_any (w := w3) (B := 0) 0 (.slice ba n bc) l HR3.out (by omega) HWF.out (by omega)
  simp only [ino] at hRt
  clear hra hrb hb2 hb3 hl HB1 HI0
  go_wp2_with fail
  rw [← hw3, ← hab]
  clear hw3 hab
  refine hRt.mono ?_
  rintro r w4 ⟨⟨t, rfl, ht⟩, hb4⟩
  have HB4 : Hid (Below w.heap.size w w4) := HB3.out.trans (hb4.mono HB3.out.size)
  cases t
  · clear ht hRt hb4
    go_wp2
    go_ret
    exact ⟨rfl, HB4.out⟩
  · obtain ⟨hok, _⟩ := ht rfl
    have HOK : Hid (OkL l) := hok
    have HX4 : Hid (w4.heap[ab]? = some (.cells #[.int .i64 0, .slice aa n ac] 26 (0, 0))) := (hb4.block _ (lt_of_heap HX3.out)).trans HX3.out
    have HY4 : Hid (w4.heap[ab + 1]? = some (.cells #[.int .i64 0, .slice ba n bc] 29 (0, 0))) := (hb4.block _ (lt_of_heap HY3.out)).trans HY3.out
    have HA4 : Hid (Row w4 0 (.slice aa n ac) l) := row_below HA3.out hb4 (Nat.le_refl _)
    have HR4 : Hid (RowR w4 0 (.slice ba n bc) l) := row_below HR3.out hb4 (Nat.le_refl _)
    clear ht hRt hb4 hok HX3 HY3 HB3 HA3 HR3
    have hSe := sectors_any (w := w4) (B := 0) 0 (.slice ba n bc) l HR4.out (by omega) HOK.out
    simp only [ino] at hSe
    obtain ⟨y0, y1, y2, y3⟩ := agg2 HY4.out
    go_wp2_with fail
    refine hSe.mono ?_
    rintro r w5 ⟨iv, rfl, hri, hb5⟩
    obtain ⟨xs, hxs⟩ : ∃ xs, secF l = xs := ⟨_, rfl⟩
    obtain ⟨N, hN⟩ : ∃ N, xs.length = N := ⟨_, rfl⟩
    rw [hxs] at hri
    obtain ⟨ia, ic, hiv, _⟩ := row_slice hri
    rw [hN] at hiv
    subst hiv
    have HX5 : Hid (w5.heap[ab]? = some (.cells #[.int .i64 0, .slice aa n ac] 26 (0, 0))) := (hb5.block _ (lt_of_heap HX4.out)).trans HX4.out
    have HB5 : Hid (Below w.heap.size w w5) := HB4.out.trans (hb5.mono HB4.out.size)
    have HA5 : Hid (Row w5 0 (.slice aa n ac) l) := row_below HA4.out hb5 (Nat.le_refl _)
    have HI5 : Hid (RowI w5 0 (.slice ia N ic) xs) := row_base hri (Nat.zero_le _)
    have HSZ : Hid (sizeF l = (N : Int)) := by show _ = _; rw [← secF_length HOK.out, hxs, hN]
    have hNle : N ≤ 100000 := by
      have h1 := sizeF_le HOK.out
      rw [HSZ.out, hn] at h1
      omega
    obtain ⟨h, hh⟩ : ∃ h, hasF xs sector 0 = h := ⟨_, rfl⟩
    have HHAS : Hid (hasF xs sector 0 = h) := hh
    have hhc : h = -1 ∨ 0 ≤ h := by rw [← hh]; exact hasF_ge xs sector 0 (by omega)
    have HBLK' : Hid (blockF l sector 0 = optI h) := by show _ = _; rw [secF_block HOK.out sector 0 (by omega), hxs, hh]
    have hMap := map_any (w := w5) (B := 0) 0 (.slice aa n ac) l block HA5.out (by omega) HOK.out hblk
    simp only [ino] at hMap
    obtain ⟨x0, x1, x2, x3⟩ := agg2 HX5.out
    clear hSe hri hb5 hh y0 y1 y2 y3 HX4 HY4 HA4 HR4 HB4
    by_cases hb0 : block < 0
    · rw [show mapG l block = none by unfold mapG; rw [if_pos hb0], optV_no] at hMap
      clear hxs
      rcases hhc with rfl | hh0
      · have HBLK : Hid (blockF l sector 0 = none) := HBLK'.out
        go_wp2_with fail
        refine hMap.mono ?_
        rintro r w6 ⟨rfl, hb6⟩
        have HX6 : Hid (w6.heap[ab]? = some (.cells #[.int .i64 0, .slice aa n ac] 26 (0, 0))) := (hb6.block _ (lt_of_heap HX5.out)).trans HX5.out
        have HB6 : Hid (Below w.heap.size w w6) := HB5.out.trans (hb6.mono HB5.out.size)
        have HA6 : Hid (Row w6 0 (.slice aa n ac) l) := row_below HA5.out hb6 (Nat.le_refl _)
        have HI6 : Hid (RowI w6 0 (.slice ia N ic) xs) := row_below HI5.out hb6 (Nat.le_refl _)
        clear hMap hb6 HX5 HB5 HA5 HI5 x0 x1 x2 x3
        have hBlk := block_any (w := w6) (B := 0) 0 (.slice aa n ac) l sector HA6.out (by omega) HOK.out hsec
        rw [HBLK.out, optV_no] at hBlk
        simp only [ino] at hBlk
        obtain ⟨x0, x1, x2, x3⟩ := agg2 HX6.out
        go_wp2_with fail
        refine hBlk.mono ?_
        rintro r w7 ⟨rfl, hb7⟩
        have HX7 : Hid (w7.heap[ab]? = some (.cells #[.int .i64 0, .slice aa n ac] 26 (0, 0))) := (hb7.block _ (lt_of_heap HX6.out)).trans HX6.out
        have HB7 : Hid (Below w.heap.size w w7) := HB6.out.trans (hb7.mono HB6.out.size)
        have HA7 : Hid (Row w7 0 (.slice aa n ac) l) := row_below HA6.out hb7 (Nat.le_refl _)
        have HI7 : Hid (RowI w7 0 (.slice ia N ic) xs) := row_below HI6.out hb7 (Nat.le_refl _)
        clear hBlk hb7 HX6 HB6 HA6 HI6 x0 x1 x2 x3
        have hHas := refhas_any (w := w7) (B := 0) (.slice ia N ic) xs sector HI7.out (by omega)
        rw [HHAS.out] at hHas
        go_wp2_with fail
        refine hHas.mono ?_
        rintro r w7' ⟨rfl, rfl⟩
        clear hHas
        have hSz := size_any (w := w7') (B := 0) 0 (.slice aa n ac) l HA7.out (by omega) HOK.out
        rw [HSZ.out] at hSz
        simp only [ino] at hSz
        obtain ⟨x0, x1, x2, x3⟩ := agg2 HX7.out
        go_wp2_with fail
        refine hSz.mono ?_
        rintro r w8 ⟨rfl, hb8⟩
        have HB8 : Hid (Below w.heap.size w w8) := HB7.out.trans (hb8.mono HB7.out.size)
        have HI8 : Hid (RowI w8 0 (.slice ia N ic) xs) := row_below HI7.out hb8 (Nat.le_refl _)
        clear hSz hb8 HX7 HB7 HA7 HI7 x0 x1 x2 x3
        go_wp2
        go_ret
        exact ⟨rfl, HB8.out⟩
      · have HBLK : Hid (blockF l sector 0 = some h) := by show _ = _; rw [HBLK'.out]; unfold optI; rw [if_pos hh0]
        go_wp2_with fail
        refine hMap.mono ?_
        rintro r w6 ⟨rfl, hb6⟩
        have HX6 : Hid (w6.heap[ab]? = some (.cells #[.int .i64 0, .slice aa n ac] 26 (0, 0))) := (hb6.block _ (lt_of_heap HX5.out)).trans HX5.out
        have HB6 : Hid (Below w.heap.size w w6) := HB5.out.trans (hb6.mono HB5.out.size)
        have HA6 : Hid (Row w6 0 (.slice aa n ac) l) := row_below HA5.out hb6 (Nat.le_refl _)
        have HI6 : Hid (RowI w6 0 (.slice ia N ic) xs) := row_below HI5.out hb6 (Nat.le_refl _)
        clear hMap hb6 HX5 HB5 HA5 HI5 x0 x1 x2 x3
        have hBlk := block_any (w := w6) (B := 0) 0 (.slice aa n ac) l sector HA6.out (by omega) HOK.out hsec
        rw [HBLK.out, optV_yes] at hBlk
        simp only [ino] at hBlk
        obtain ⟨x0, x1, x2, x3⟩ := agg2 HX6.out
        go_wp2_with fail
        refine hBlk.mono ?_
        rintro r w7 ⟨rfl, hb7⟩
        have HX7 : Hid (w7.heap[ab]? = some (.cells #[.int .i64 0, .slice aa n ac] 26 (0, 0))) := (hb7.block _ (lt_of_heap HX6.out)).trans HX6.out
        have HB7 : Hid (Below w.heap.size w w7) := HB6.out.trans (hb7.mono HB6.out.size)
        have HA7 : Hid (Row w7 0 (.slice aa n ac) l) := row_below HA6.out hb7 (Nat.le_refl _)
        have HI7 : Hid (RowI w7 0 (.slice ia N ic) xs) := row_below HI6.out hb7 (Nat.le_refl _)
        clear hBlk hb7 HX6 HB6 HA6 HI6 x0 x1 x2 x3
        have hHas := refhas_any (w := w7) (B := 0) (.slice ia N ic) xs sector HI7.out (by omega)
        rw [HHAS.out] at hHas
        go_wp2_with fail
        refine hHas.mono ?_
        rintro r w7' ⟨rfl, rfl⟩
        clear hHas
        have hSz := size_any (w := w7') (B := 0) 0 (.slice aa n ac) l HA7.out (by omega) HOK.out
        rw [HSZ.out] at hSz
        simp only [ino] at hSz
        obtain ⟨x0, x1, x2, x3⟩ := agg2 HX7.out
        go_wp2_with fail
        refine hSz.mono ?_
        rintro r w8 ⟨rfl, hb8⟩
        have HB8 : Hid (Below w.heap.size w w8) := HB7.out.trans (hb8.mono HB7.out.size)
        have HI8 : Hid (RowI w8 0 (.slice ia N ic) xs) := row_below HI7.out hb8 (Nat.le_refl _)
        clear hSz hb8 HX7 HB7 HA7 HI7 x0 x1 x2 x3
        go_wp2
        go_ret
        exact ⟨rfl, HB8.out⟩
    · obtain ⟨bn, rfl⟩ : ∃ bn : Nat, block = bn := ⟨block.toNat, by omega⟩
      by_cases hbN : bn < N
      · obtain ⟨sv, hsv⟩ : ∃ sv, xs[bn]'(by omega) = sv := ⟨_, rfl⟩
        have HSV : Hid (xs[bn]'(by omega) = sv) := hsv
        have hmg : mapG l bn = some sv := by
          unfold mapG
          rw [if_neg (by omega), secF_map HOK.out bn, hxs, List.getElem?_eq_getElem (by omega), hsv]
        rw [hmg, optV_yes] at hMap
        have hbN' : (bn : Int) < (N : Int) := by omega
        clear hmg hsv hxs
        rcases hhc with rfl | hh0
        · have HBLK : Hid (blockF l sector 0 = none) := HBLK'.out
          go_wp2_with fail
          refine hMap.mono ?_
          rintro r w6 ⟨rfl, hb6⟩
          have HX6 : Hid (w6.heap[ab]? = some (.cells #[.int .i64 0, .slice aa n ac] 26 (0, 0))) := (hb6.block _ (lt_of_heap HX5.out)).trans HX5.out
          have HB6 : Hid (Below w.heap.size w w6) := HB5.out.trans (hb6.mono HB5.out.size)
          have HA6 : Hid (Row w6 0 (.slice aa n ac) l) := row_below HA5.out hb6 (Nat.le_refl _)
          have HI6 : Hid (RowI w6 0 (.slice ia N ic) xs) := row_below HI5.out hb6 (Nat.le_refl _)
          clear hMap hb6 HX5 HB5 HA5 HI5 x0 x1 x2 x3
          have hBlk := block_any (w := w6) (B := 0) 0 (.slice aa n ac) l sector HA6.out (by omega) HOK.out hsec
          rw [HBLK.out, optV_no] at hBlk
          simp only [ino] at hBlk
          obtain ⟨x0, x1, x2, x3⟩ := agg2 HX6.out
          go_wp2_with fail
          refine hBlk.mono ?_
          rintro r w7 ⟨rfl, hb7⟩
          have HX7 : Hid (w7.heap[ab]? = some (.cells #[.int .i64 0, .slice aa n ac] 26 (0, 0))) := (hb7.block _ (lt_of_heap HX6.out)).trans HX6.out
          have HB7 : Hid (Below w.heap.size w w7) := HB6.out.trans (hb7.mono HB6.out.size)
          have HA7 : Hid (Row w7 0 (.slice aa n ac) l) := row_below HA6.out hb7 (Nat.le_refl _)
          have HI7 : Hid (RowI w7 0 (.slice ia N ic) xs) := row_below HI6.out hb7 (Nat.le_refl _)
          clear hBlk hb7 HX6 HB6 HA6 HI6 x0 x1 x2 x3
          have hHas := refhas_any (w := w7) (B := 0) (.slice ia N ic) xs sector HI7.out (by omega)
          rw [HHAS.out] at hHas
          go_wp2_with fail
          refine hHas.mono ?_
          rintro r w7' ⟨rfl, rfl⟩
          clear hHas
          have hSz := size_any (w := w7') (B := 0) 0 (.slice aa n ac) l HA7.out (by omega) HOK.out
          rw [HSZ.out] at hSz
          simp only [ino] at hSz
          obtain ⟨x0, x1, x2, x3⟩ := agg2 HX7.out
          go_wp2_with fail
          refine hSz.mono ?_
          rintro r w8 ⟨rfl, hb8⟩
          have HB8 : Hid (Below w.heap.size w w8) := HB7.out.trans (hb8.mono HB7.out.size)
          have HI8 : Hid (RowI w8 0 (.slice ia N ic) xs) := row_below HI7.out hb8 (Nat.le_refl _)
          clear hSz hb8 HX7 HB7 HA7 HI7 x0 x1 x2 x3
          have hcell : ∃ g, ia = some ⟨g, 0, none⟩ ∧ w8.cell? ⟨g, bn, none⟩ = some (.int .i64 sv) := by
            obtain ⟨g, c', he⟩ := row_some HI8.out (by omega)
            cases he
            have := HI8.out.int bn (by omega)
            rw [HSV.out] at this
            exact ⟨g, rfl, this⟩
          obtain ⟨g, rfl, c8⟩ := hcell
          go_wp2
          go_ret
          exact ⟨rfl, HB8.out⟩
        · have HBLK : Hid (blockF l sector 0 = some h) := by show _ = _; rw [HBLK'.out]; unfold optI; rw [if_pos hh0]
          go_wp2_with fail
          refine hMap.mono ?_
          rintro r w6 ⟨rfl, hb6⟩
          have HX6 : Hid (w6.heap[ab]? = some (.cells #[.int .i64 0, .slice aa n ac] 26 (0, 0))) := (hb6.block _ (lt_of_heap HX5.out)).trans HX5.out
          have HB6 : Hid (Below w.heap.size w w6) := HB5.out.trans (hb6.mono HB5.out.size)
          have HA6 : Hid (Row w6 0 (.slice aa n ac) l) := row_below HA5.out hb6 (Nat.le_refl _)
          have HI6 : Hid (RowI w6 0 (.slice ia N ic) xs) := row_below HI5.out hb6 (Nat.le_refl _)
          clear hMap hb6 HX5 HB5 HA5 HI5 x0 x1 x2 x3
          have hBlk := block_any (w := w6) (B := 0) 0 (.slice aa n ac) l sector HA6.out (by omega) HOK.out hsec
          rw [HBLK.out, optV_yes] at hBlk
          simp only [ino] at hBlk
          obtain ⟨x0, x1, x2, x3⟩ := agg2 HX6.out
          go_wp2_with fail
          refine hBlk.mono ?_
          rintro r w7 ⟨rfl, hb7⟩
          have HX7 : Hid (w7.heap[ab]? = some (.cells #[.int .i64 0, .slice aa n ac] 26 (0, 0))) := (hb7.block _ (lt_of_heap HX6.out)).trans HX6.out
          have HB7 : Hid (Below w.heap.size w w7) := HB6.out.trans (hb7.mono HB6.out.size)
          have HA7 : Hid (Row w7 0 (.slice aa n ac) l) := row_below HA6.out hb7 (Nat.le_refl _)
          have HI7 : Hid (RowI w7 0 (.slice ia N ic) xs) := row_below HI6.out hb7 (Nat.le_refl _)
          clear hBlk hb7 HX6 HB6 HA6 HI6 x0 x1 x2 x3
          have hHas := refhas_any (w := w7) (B := 0) (.slice ia N ic) xs sector HI7.out (by omega)
          rw [HHAS.out] at hHas
          go_wp2_with fail
          refine hHas.mono ?_
          rintro r w7' ⟨rfl, rfl⟩
          clear hHas
          have hSz := size_any (w := w7') (B := 0) 0 (.slice aa n ac) l HA7.out (by omega) HOK.out
          rw [HSZ.out] at hSz
          simp only [ino] at hSz
          obtain ⟨x0, x1, x2, x3⟩ := agg2 HX7.out
          go_wp2_with fail
          refine hSz.mono ?_
          rintro r w8 ⟨rfl, hb8⟩
          have HB8 : Hid (Below w.heap.size w w8) := HB7.out.trans (hb8.mono HB7.out.size)
          have HI8 : Hid (RowI w8 0 (.slice ia N ic) xs) := row_below HI7.out hb8 (Nat.le_refl _)
          clear hSz hb8 HX7 HB7 HA7 HI7 x0 x1 x2 x3
          have hcell : ∃ g, ia = some ⟨g, 0, none⟩ ∧ w8.cell? ⟨g, bn, none⟩ = some (.int .i64 sv) := by
            obtain ⟨g, c', he⟩ := row_some HI8.out (by omega)
            cases he
            have := HI8.out.int bn (by omega)
            rw [HSV.out] at this
            exact ⟨g, rfl, this⟩
          obtain ⟨g, rfl, c8⟩ := hcell
          go_wp2
          go_ret
          exact ⟨rfl, HB8.out⟩
      · have hmg : mapG l bn = none := by
          unfold mapG
          rw [if_neg (by omega), secF_map HOK.out bn, hxs, List.getElem?_eq_none (by omega)]
        rw [hmg, optV_no] at hMap
        have hbN' : decide ((bn : Int) < (N : Int)) = false := decide_eq_false (by omega)
        have hbNn : decide (bn < N) = false := decide_eq_false hbN
        clear hmg hxs
        rcases hhc with rfl | hh0
        · have HBLK : Hid (blockF l sector 0 = none) := HBLK'.out
          go_wp2_with fail
          refine hMap.mono ?_
          rintro r w6 ⟨rfl, hb6⟩
          have HX6 : Hid (w6.heap[ab]? = some (.cells #[.int .i64 0, .slice aa n ac] 26 (0, 0))) := (hb6.block _ (lt_of_heap HX5.out)).trans HX5.out
          have HB6 : Hid (Below w.heap.size w w6) := HB5.out.trans (hb6.mono HB5.out.size)
          have HA6 : Hid (Row w6 0 (.slice aa n ac) l) := row_below HA5.out hb6 (Nat.le_refl _)
          have HI6 : Hid (RowI w6 0 (.slice ia N ic) xs) := row_below HI5.out hb6 (Nat.le_refl _)
          clear hMap hb6 HX5 HB5 HA5 HI5 x0 x1 x2 x3
          have hBlk := block_any (w := w6) (B := 0) 0 (.slice aa n ac) l sector HA6.out (by omega) HOK.out hsec
          rw [HBLK.out, optV_no] at hBlk
          simp only [ino] at hBlk
          obtain ⟨x0, x1, x2, x3⟩ := agg2 HX6.out
          go_wp2_with fail
          refine hBlk.mono ?_
          rintro r w7 ⟨rfl, hb7⟩
          have HX7 : Hid (w7.heap[ab]? = some (.cells #[.int .i64 0, .slice aa n ac] 26 (0, 0))) := (hb7.block _ (lt_of_heap HX6.out)).trans HX6.out
          have HB7 : Hid (Below w.heap.size w w7) := HB6.out.trans (hb7.mono HB6.out.size)
          have HA7 : Hid (Row w7 0 (.slice aa n ac) l) := row_below HA6.out hb7 (Nat.le_refl _)
          have HI7 : Hid (RowI w7 0 (.slice ia N ic) xs) := row_below HI6.out hb7 (Nat.le_refl _)
          clear hBlk hb7 HX6 HB6 HA6 HI6 x0 x1 x2 x3
          have hHas := refhas_any (w := w7) (B := 0) (.slice ia N ic) xs sector HI7.out (by omega)
          rw [HHAS.out] at hHas
          go_wp2_with fail
          refine hHas.mono ?_
          rintro r w7' ⟨rfl, rfl⟩
          clear hHas
          have hSz := size_any (w := w7') (B := 0) 0 (.slice aa n ac) l HA7.out (by omega) HOK.out
          rw [HSZ.out] at hSz
          simp only [ino] at hSz
          obtain ⟨x0, x1, x2, x3⟩ := agg2 HX7.out
          go_wp2_with fail
          refine hSz.mono ?_
          rintro r w8 ⟨rfl, hb8⟩
          have HB8 : Hid (Below w.heap.size w w8) := HB7.out.trans (hb8.mono HB7.out.size)
          have HI8 : Hid (RowI w8 0 (.slice ia N ic) xs) := row_below HI7.out hb8 (Nat.le_refl _)
          clear hSz hb8 HX7 HB7 HA7 HI7 x0 x1 x2 x3
          go_wp2
          go_ret
          exact ⟨rfl, HB8.out⟩
        · have HBLK : Hid (blockF l sector 0 = some h) := by show _ = _; rw [HBLK'.out]; unfold optI; rw [if_pos hh0]
          go_wp2_with fail
          refine hMap.mono ?_
          rintro r w6 ⟨rfl, hb6⟩
          have HX6 : Hid (w6.heap[ab]? = some (.cells #[.int .i64 0, .slice aa n ac] 26 (0, 0))) := (hb6.block _ (lt_of_heap HX5.out)).trans HX5.out
          have HB6 : Hid (Below w.heap.size w w6) := HB5.out.trans (hb6.mono HB5.out.size)
          have HA6 : Hid (Row w6 0 (.slice aa n ac) l) := row_below HA5.out hb6 (Nat.le_refl _)
          have HI6 : Hid (RowI w6 0 (.slice ia N ic) xs) := row_below HI5.out hb6 (Nat.le_refl _)
          clear hMap hb6 HX5 HB5 HA5 HI5 x0 x1 x2 x3
          have hBlk := block_any (w := w6) (B := 0) 0 (.slice aa n ac) l sector HA6.out (by omega) HOK.out hsec
          rw [HBLK.out, optV_yes] at hBlk
          simp only [ino] at hBlk
          obtain ⟨x0, x1, x2, x3⟩ := agg2 HX6.out
          go_wp2_with fail
          refine hBlk.mono ?_
          rintro r w7 ⟨rfl, hb7⟩
          have HX7 : Hid (w7.heap[ab]? = some (.cells #[.int .i64 0, .slice aa n ac] 26 (0, 0))) := (hb7.block _ (lt_of_heap HX6.out)).trans HX6.out
          have HB7 : Hid (Below w.heap.size w w7) := HB6.out.trans (hb7.mono HB6.out.size)
          have HA7 : Hid (Row w7 0 (.slice aa n ac) l) := row_below HA6.out hb7 (Nat.le_refl _)
          have HI7 : Hid (RowI w7 0 (.slice ia N ic) xs) := row_below HI6.out hb7 (Nat.le_refl _)
          clear hBlk hb7 HX6 HB6 HA6 HI6 x0 x1 x2 x3
          have hHas := refhas_any (w := w7) (B := 0) (.slice ia N ic) xs sector HI7.out (by omega)
          rw [HHAS.out] at hHas
          go_wp2_with fail
          refine hHas.mono ?_
          rintro r w7' ⟨rfl, rfl⟩
          clear hHas
          have hSz := size_any (w := w7') (B := 0) 0 (.slice aa n ac) l HA7.out (by omega) HOK.out
          rw [HSZ.out] at hSz
          simp only [ino] at hSz
          obtain ⟨x0, x1, x2, x3⟩ := agg2 HX7.out
          go_wp2_with fail
          refine hSz.mono ?_
          rintro r w8 ⟨rfl, hb8⟩
          have HB8 : Hid (Below w.heap.size w w8) := HB7.out.trans (hb8.mono HB7.out.size)
          have HI8 : Hid (RowI w8 0 (.slice ia N ic) xs) := row_below HI7.out hb8 (Nat.le_refl _)
          clear hSz hb8 HX7 HB7 HA7 HI7 x0 x1 x2 x3
          go_wp2
          go_ret
          exact ⟨rfl, HB8.out⟩

theorem inodeMaps_calls {H : Type} {enc : TypeId × Value → H} {sp : Nat → Bool} {held : Bool} {d : DataW H} {p : List MemPlace} (a : Option Addr) (len cap : Nat) (block sector : Int) (w : World)
    (h : DataW.Trod enc Try.prog w 0 sp held 22 (.slice a len cap) d p) (h1 : (Lit.int .i64 block).wf = true) (h2 : (Lit.int .i64 sector).wf = true) :
    Calls Try.prog 3 #[.slice a len cap, .int .i64 block, .int .i64 sector] w fun r w' => r = .returned (.bool true) ∧ Below w.heap.size w w' := by
  obtain ⟨L, hI, _⟩ := items_of_trod h
  simp only [Lit.wf, IntKind.min, IntKind.max, IntKind.signed, IntKind.bits, Bool.and_eq_true, decide_eq_true_eq, if_true] at h1 h2
  exact inodeMaps_walk a len cap L block sector w hI (by omega) (by omega)

end Go.Proofs.Ytkflhakgfpiiaab.Id
