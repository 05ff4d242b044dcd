/-
  The statements on sealing and opening any bytes, as walks. Condition: the table of four steps holds what its initialiser lays, and errors.errorType its handle.
-/
import Derived.Test.YtiaigboichmepabDoorSlRef
import Derived.Test.YtiaigboichmepabDoorZsMake
import Derived.Test.YtiaigboichmepabDoorFaNumber
namespace Go.Proofs.YtiaigboichmepabDoor.Mk
open Go.ChangeShapes Go.WideShapes Go.ChangeAt Go.RowKit Go.Lib
open Go.Proofs.YtiaigboichmepabDoor.Le (ret_int streq_yes streq_no)
open Go.Proofs.YtiaigboichmepabDoor.Zs (zstr zstr_size zstr_data make_run conv_made0)
open Go.Proofs.YtiaigboichmepabDoor.As (ErrT)

theorem number_errV (e : Int) (w : World) (hE : ErrT w) : Calls Tryd.prog 13 #[errV e] w fun r w' => r = .returned (.int .i64 e) ∧ Below w.heap.size w w' := by
  by_cases he : e = 0
  · subst he; exact Fa.Number_nil w
  · rw [errV_pos he]
    exact (Fa.Number_any (some (some e)) (by simp) [] 32 (.int .i64 e) w (by simp) rfl hE).mono fun r w' h => h

theorem openF_body (k : Int) (s : ByteArray) : (openF k s).2 ≠ 0 → (openF k s).1 = ByteArray.empty := by
  unfold openF; split
  · split
    · intro h; exact absurd rfl h
    · intro _; rfl
  · intro _; rfl

set_option maxRecDepth 100000 in
set_option maxHeartbeats 1000000 in
theorem markOpens_calls (k : Int) (s : ByteArray) (w : World) (_ : (Lit.int .i64 k).wf = true) (hl : s.size ≤ maxLen) (hE : ErrT w) (hn : NibAt w) :
    Calls Tryd.prog 5 #[.int .i64 k, .string s] w fun e w' => e = .returned (.bool true) ∧ Below w.heap.size w w' := by
  have HN : Hid (NibAt w) := hn
  have HE : Hid (ErrT w) := hE
  clear hn hE
  unfold maxLen at hl
  by_cases hz : (600 : Int) < s.size
  · go_enter Tryd.func5, Tryd.ntmps5
    go_wp2_with fail
    refine (speaks_any _ HN.out).mono ?_
    rintro e w1 ⟨rfl, hb1⟩
    go_wp2
    go_ret
    exact ⟨rfl, hb1⟩
  · have HKF : Hid (kindF s = if s.size = 512 then (if (openF (kindOf s) s).2 = 0 then (kindOf s : Int) else 0) else 0) := rfl
    have hq0 : ∀ x : ByteArray, (x.toList == x.toList) = true := fun x => streq_yes rfl
    go_enter Tryd.func5, Tryd.ntmps5
    go_wp2_with fail
    refine (speaks_any _ HN.out).mono ?_
    rintro e w1 ⟨rfl, hb1⟩
    have HN1 : Hid (NibAt w1) := HN.out.below hb1
    go_wp2_with fail
    refine (openM_any _ _ _ HN1.out).mono ?_
    rintro e w2 ⟨rfl, hb2⟩
    have HB2 : Hid (Below w.heap.size w w2) := hb1.trans (hb2.mono hb1.size)
    clear hb1 hb2
    go_wp2_with fail
    refine (refopen_any _ _ _).mono ?_
    rintro e w3 ⟨rfl, hb3⟩
    have HB3 : Hid (Below w.heap.size w w3) := HB2.out.trans (hb3.mono HB2.out.size)
    have HE3 : Hid (ErrT w3) := HE.out.below HB3.out HE.out.lt
    clear hb3
    have hef := openF_err k s
    generalize openF k s = r at *
    obtain ⟨rb, re⟩ := r
    by_cases h5 : s.size = 512
    · have hd : ((s.size : Int) == 512) = true := by simp; omega
      rw [if_pos h5] at HKF
      have hg := kindOf_get s (by omega)
      have hlk : kindOf s < 256 := (s.data.toList.getD 2 0).toNat_lt
      by_cases h0 : (openF (kindOf s) s).2 = 0
      · rw [if_pos h0] at HKF
        have H0 : Hid ((openF (kindOf s) s).2 = 0) := h0
        clear h0
        generalize kindOf s = kk at *
        go_wp2_with fail
        refine (refopen_any _ _ _).mono ?_
        rintro e w4 ⟨rfl, hb4⟩
        rw [H0.out]
        have HB4 : Hid (Below w.heap.size w w4) := HB3.out.trans (hb4.mono HB3.out.size)
        have HE4 : Hid (ErrT w4) := HE.out.below HB4.out HE.out.lt
        have HN4 : Hid (NibAt w4) := HN.out.below HB4.out
        clear hb4
        go_wp2_with fail
        refine (number_errV _ _ HE4.out).mono ?_
        rintro e w5 ⟨rfl, hb5⟩
        have HB5 : Hid (Below w.heap.size w w5) := HB4.out.trans (hb5.mono HB4.out.size)
        have HN5 : Hid (NibAt w5) := HN.out.below HB5.out
        clear hb5
        go_wp2_with fail
        refine (kindM_any _ _ HN5.out).mono ?_
        rintro e w6 ⟨rfl, hb6⟩
        rw [HKF.out]
        go_wp2
        go_ret
        exact ⟨rfl, HB5.out.trans (hb6.mono HB5.out.size)⟩
      · rw [if_neg h0] at HKF
        have hz0 : ((openF (kindOf s) s).2 == 0) = false := by simpa using h0
        clear h0
        generalize kindOf s = kk at *
        go_wp2_with fail
        refine (refopen_any _ _ _).mono ?_
        rintro e w4 ⟨rfl, hb4⟩
        generalize (openF kk s).2 = e2 at *
        have HB4 : Hid (Below w.heap.size w w4) := HB3.out.trans (hb4.mono HB3.out.size)
        have HE4 : Hid (ErrT w4) := HE.out.below HB4.out HE.out.lt
        have HN4 : Hid (NibAt w4) := HN.out.below HB4.out
        clear hb4
        go_wp2_with fail
        refine (number_errV _ _ HE4.out).mono ?_
        rintro e w5 ⟨rfl, hb5⟩
        have HB5 : Hid (Below w.heap.size w w5) := HB4.out.trans (hb5.mono HB4.out.size)
        have HN5 : Hid (NibAt w5) := HN.out.below HB5.out
        clear hb5
        go_wp2_with fail
        refine (kindM_any _ _ HN5.out).mono ?_
        rintro e w6 ⟨rfl, hb6⟩
        rw [HKF.out]
        go_wp2
        go_ret
        exact ⟨rfl, HB5.out.trans (hb6.mono HB5.out.size)⟩
    · have hd : ((s.size : Int) == 512) = false := by simp; omega
      rw [if_neg h5] at HKF
      go_wp2_with fail
      refine (number_errV _ _ HE3.out).mono ?_
      rintro e w5 ⟨rfl, hb5⟩
      have HB5 : Hid (Below w.heap.size w w5) := HB3.out.trans (hb5.mono HB3.out.size)
      have HN5 : Hid (NibAt w5) := HN.out.below HB5.out
      clear hb5
      go_wp2_with fail
      refine (kindM_any _ _ HN5.out).mono ?_
      rintro e w6 ⟨rfl, hb6⟩
      rw [HKF.out]
      go_wp2
      go_ret
      exact ⟨rfl, HB5.out.trans (hb6.mono HB5.out.size)⟩

theorem pad_more (a : ByteArray) : a ++ zstr (504 - a.size) = padS a := by
  apply ext_bytes
  rw [ByteArray.data_append, Array.toList_append, zstr_data]
  show _ = (List.toArray _).toList
  rw [List.toList_toArray]

theorem open_other {k l : Int} {body : ByteArray} (h1 : 1 ≤ k) (h2 : k ≤ 255) (l1 : 1 ≤ l) (l2 : l ≤ 255) (hb : body.size ≤ 504) (hkl : l ≠ k) : openF l (sealS k body) = (ByteArray.empty, 4) := by
  unfold openF
  rw [if_neg]
  rintro ⟨_, _, _, h⟩
  rw [(seal_head h1 h2 hb).2.2.2] at h
  exact hkl (headS_inj l1 l2 h1 h2 h.symm)

theorem kindF_empty : kindF ByteArray.empty = 0 := rfl

set_option maxRecDepth 100000 in
set_option maxHeartbeats 1000000 in
theorem markSeals_calls (k : Int) (s : ByteArray) (w : World) (_ : (Lit.int .i64 k).wf = true) (hl : s.size ≤ maxLen) (hE : ErrT w) (hn : NibAt w) :
    Calls Tryd.prog 4 #[.int .i64 k, .string s] w fun e w' => e = .returned (.bool true) ∧ Below w.heap.size w w' := by
  have HN : Hid (NibAt w) := hn
  have HE : Hid (ErrT w) := hE
  have HL : Hid (s.size ≤ maxLen) := hl
  clear hn hE
  unfold maxLen at hl
  by_cases hz : (600 : Int) < s.size
  · go_enter Tryd.func4, Tryd.ntmps4
    go_wp2_with fail
    refine (speaks_any _ HN.out).mono ?_
    rintro e w1 ⟨rfl, hb1⟩
    go_wp2
    go_ret
    exact ⟨rfl, hb1⟩
  · have hq0 : ∀ x : ByteArray, (x.toList == x.toList) = true := fun x => streq_yes rfl
    go_enter Tryd.func4, Tryd.ntmps4
    go_wp2_with fail
    refine (speaks_any _ HN.out).mono ?_
    rintro e w1 ⟨rfl, hb1⟩
    have HN1 : Hid (NibAt w1) := HN.out.below hb1
    go_wp2_with fail
    refine (sealM_any _ _ _ HN1.out).mono ?_
    rintro e w2 ⟨rfl, hb2⟩
    have HB2 : Hid (Below w.heap.size w w2) := hb1.trans (hb2.mono hb1.size)
    clear hb1 hb2
    go_wp2_with fail
    refine (refseal_any _ _ _ HL.out).mono ?_
    rintro e w3 ⟨rfl, hb3⟩
    have HB3 : Hid (Below w.heap.size w w3) := HB2.out.trans (hb3.mono HB2.out.size)
    have HE3 : Hid (ErrT w3) := HE.out.below HB3.out HE.out.lt
    clear hb3
    by_cases hok : (1 ≤ k ∧ k ≤ 255) ∧ s.size ≤ 504
    · obtain ⟨⟨k1, k2⟩, h5⟩ := hok
      have hF : sealF k s = (sealS k s, 0) := by unfold sealF; rw [if_pos ⟨k1, k2⟩, if_pos h5]
      rw [hF]
      clear hF
      have HO : Hid (openF k (sealS k s) = (padS s, 0)) := open_seal k1 k2 h5
      have HK : Hid (kindF (sealS k s) = k) := seal_kindF k1 k2 h5
      have hpm := pad_more s
      obtain ⟨kk, ek, HO2⟩ : ∃ kk : Int, k % 255 + 1 = kk ∧ Hid (openF kk (sealS k s) = (ByteArray.empty, 4)) := ⟨_, rfl, open_other k1 k2 (by omega) (by omega) h5 (by omega)⟩
      have hzm : (zstr (504 - s.size)).size = 504 - s.size := zstr_size _
      generalize sealS k s = t at *
      go_wp2_with fail
      refine (number_errV 0 _ HE3.out).mono ?_
      rintro e w4 ⟨rfl, hb4⟩
      have HB4 : Hid (Below w.heap.size w w4) := HB3.out.trans (hb4.mono HB3.out.size)
      have HN4 : Hid (NibAt w4) := HN.out.below HB4.out
      clear hb4
      go_wp2_with fail
      refine (openM_any _ _ _ HN4.out).mono ?_
      rintro e w5 ⟨rfl, hb5⟩
      rw [HO.out, errV_zero]
      have HB5 : Hid (Below w.heap.size w w5) := HB4.out.trans (hb5.mono HB4.out.size)
      have HN5 : Hid (NibAt w5) := HN.out.below HB5.out
      clear hb5
      go_wp2_with fail
      refine (openM_any _ _ _ HN5.out).mono ?_
      rintro e w6 ⟨rfl, hb6⟩
      rw [HO2.out, errV_pos (by decide)]
      have HB6 : Hid (Below w.heap.size w w6) := HB5.out.trans (hb6.mono HB5.out.size)
      clear hb6
      have hmk := make_run (504 - (s.size : Int)) (by omega) (by omega) w6
      have hcv := conv_made0 w6 (504 - s.size)
      have HB7 : Hid (Below w.heap.size w (w6.alloc (.cells (madeCells #[Value.int .u8 0] (504 - s.size)) 5))) := HB6.out.alloc HB6.out.size _
      have HN7 : Hid (NibAt (w6.alloc (.cells (madeCells #[Value.int .u8 0] (504 - s.size)) 5))) := HN.out.below HB7.out
      go_wp2_with fail
      refine (kindM_any _ _ HN7.out).mono ?_
      rintro e w8 ⟨rfl, hb8⟩
      rw [HK.out]
      have HB8 : Hid (Below w.heap.size w w8) := HB7.out.trans (hb8.mono HB7.out.size)
      have HE8 : Hid (ErrT w8) := HE.out.below HB8.out HE.out.lt
      clear hb8
      go_wp2_with fail
      refine (number_errV 4 _ HE8.out).mono ?_
      rintro e w9 ⟨rfl, hb9⟩
      go_wp2
      go_ret
      exact ⟨rfl, HB8.out.trans (hb9.mono HB8.out.size)⟩
    · obtain ⟨e1, hF, he1⟩ : ∃ e1 : Int, sealF k s = (ByteArray.empty, e1) ∧ e1 ≠ 0 := by
        unfold sealF
        by_cases hk : 1 ≤ k ∧ k ≤ 255
        · rw [if_pos hk, if_neg (fun h => hok ⟨hk, h⟩)]; exact ⟨10, rfl, by decide⟩
        · rw [if_neg hk]; exact ⟨1, rfl, by decide⟩
      rw [hF]
      clear hF hok
      have hz1 : (e1 == 0) = false := by simpa using he1
      go_wp2_with fail
      refine (number_errV _ _ HE3.out).mono ?_
      rintro e w4 ⟨rfl, hb4⟩
      have HB4 : Hid (Below w.heap.size w w4) := HB3.out.trans (hb4.mono HB3.out.size)
      have HN4 : Hid (NibAt w4) := HN.out.below HB4.out
      clear hb4
      go_wp2_with fail
      refine (kindM_any _ _ HN4.out).mono ?_
      rintro e w6 ⟨rfl, hb6⟩
      rw [kindF_empty]
      go_wp2
      go_ret
      exact ⟨rfl, HB4.out.trans (hb6.mono HB4.out.size)⟩

end Go.Proofs.YtiaigboichmepabDoor.Mk
