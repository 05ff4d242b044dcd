/-
  mark.Open and mark.Kind for any bytes, 'speaks' of layer 3's statements, and the sum of any text. Condition: the table of four steps holds what its initialiser lays.
-/
import Derived.Test.YtiaigboichmepabDoorSlOpen
namespace Go.Proofs.YtiaigboichmepabDoor.Mk
open Go.ChangeShapes Go.WideShapes Go.ChangeAt Go.RowKit Go.Lib
open Go.Proofs.YtiaigboichmepabDoor.Le (ret_int streq_yes streq_no)

theorem openM_any (k : Int) (s : ByteArray) (w : World) (hn : NibAt w) :
    Calls Tryd.prog 15 #[.int .i64 k, .string s] w fun e w' => e = .returned (.tuple #[.string (openF k s).1, errV (openF k s).2]) ∧ Below w.heap.size w w' := by
  unfold openF
  by_cases hh : headOk k s
  · obtain ⟨hs, h1, h2, h4⟩ := hh
    rw [if_pos (show headOk k s from ⟨hs, h1, h2, h4⟩)]
    by_cases ho : sumOk s
    · rw [if_pos ho]; exact open_yes k s w hs h1 h2 h4 ho hn
    · rw [if_neg ho]; exact open_sum k s w hs h1 h2 h4 ho hn
  · rw [if_neg hh]
    by_cases hs : s.size = 512
    · by_cases hk : 1 ≤ k ∧ k ≤ 255
      · exact open_head k s w hs hk.1 hk.2 (fun h => hh ⟨hs, hk.1, hk.2, h⟩)
      · exact open_kind k s w hs hk
    · exact open_len k s w hs

theorem openF_err (k : Int) (s : ByteArray) : (openF k s).2 = 0 ∨ (openF k s).2 = 4 ∨ (openF k s).2 = 5 := by
  unfold openF; split
  · split
    · exact .inl rfl
    · exact .inr (.inr rfl)
  · exact .inr (.inl rfl)

/-- The byte of the kind. -/
def kindOf (s : ByteArray) : Nat := (s.data.toList.getD 2 0).toNat
/-- What Kind answers. -/
def kindF (s : ByteArray) : Int := if s.size = 512 then (if (openF (kindOf s) s).2 = 0 then kindOf s else 0) else 0

theorem kindOf_get (s : ByteArray) (h : 2 < s.size) : s[2].toNat = kindOf s := by
  unfold kindOf
  rw [List.getD_eq_getElem?_getD, List.getElem?_eq_getElem (by simpa using h)]; rfl

set_option maxRecDepth 100000 in
set_option maxHeartbeats 400000 in
theorem kindM_any (s : ByteArray) (w : World) (hn : NibAt w) :
    Calls Tryd.prog 14 #[.string s] w fun e w' => e = .returned (.int .i64 (kindF s)) ∧ Below w.heap.size w w' := by
  have HN : Hid (NibAt w) := hn
  have HK : Hid (kindF s = if s.size = 512 then (if (openF (kindOf s) s).2 = 0 then (kindOf s : Int) else 0) else 0) := rfl
  clear hn
  by_cases hs : s.size = 512
  · have hd : ((s.size : Int) == 512) = true := by simp; omega
    have hd2 : ((s.size : Int) != 512) = false := by simp; omega
    have hg := kindOf_get s (by omega)
    have hl : kindOf s < 256 := (s.data.toList.getD 2 0).toNat_lt
    rw [if_pos hs] at HK
    by_cases he : (openF (kindOf s) s).2 = 0
    · rw [if_pos he] at HK
      have HE : Hid ((openF (kindOf s) s).2 = 0) := he
      clear he
      generalize kindOf s = k at *
      go_enter Tryd.func14, Tryd.ntmps14
      go_wp2_with fail
      refine (openM_any _ _ _ HN.out).mono ?_
      rintro e w1 ⟨rfl, hb⟩
      rw [HE.out, errV_zero]
      go_wp2
      go_ret
      exact ⟨by rw [HK.out]; rfl, hb⟩
    · rw [if_neg he] at HK
      have HE : Hid ((openF (kindOf s) s).2 ≠ 0) := he
      clear he
      generalize kindOf s = k at *
      go_enter Tryd.func14, Tryd.ntmps14
      go_wp2_with fail
      refine (openM_any _ _ _ HN.out).mono ?_
      rintro e w1 ⟨rfl, hb⟩
      rw [errV_pos HE.out]
      go_wp2
      go_ret
      exact ⟨by rw [HK.out]; rfl, hb⟩
  · have hd : ((s.size : Int) == 512) = false := by simp; omega
    have hd2 : ((s.size : Int) != 512) = true := by simp; omega
    rw [if_neg hs] at HK
    go_enter Tryd.func14, Tryd.ntmps14
    go_wp2
    go_ret
    exact ⟨by rw [HK.out]; rfl, Below.refl _ _⟩

theorem seal_kindOf {k : Int} {body : ByteArray} (h1 : 1 ≤ k) (h2 : k ≤ 255) : (kindOf (sealS k body) : Int) = k := by
  unfold kindOf
  rw [sealS_data]
  unfold aheadL
  rw [headS_data h1 h2]
  simp
  omega

theorem seal_kindF {k : Int} {body : ByteArray} (h1 : 1 ≤ k) (h2 : k ≤ 255) (hb : body.size ≤ 504) : kindF (sealS k body) = k := by
  unfold kindF
  rw [if_pos (sealS_size h1 h2 hb), seal_kindOf h1 h2, open_seal h1 h2 hb]; rfl

theorem padS_size {body : ByteArray} (hb : body.size ≤ 504) : (padS body).size = 504 := by
  show (List.toArray _).size = 504
  rw [List.size_toArray, List.length_append, List.length_replicate]
  have : body.data.toList.length = body.size := by simp
  omega

theorem sp_sum : sumN (⟨#[49, 50, 51, 52, 53, 54, 55, 56, 57]⟩ : ByteArray).data.toList = 3808858755 := by decide +kernel
theorem sp_pad : ((padS ⟨#[97, 98]⟩).extract 0 2).toList = [97, 98] := by decide +kernel

set_option maxRecDepth 100000 in
set_option maxHeartbeats 1000000 in
theorem speaks_any (w : World) (hn : NibAt w) :
    Calls Tryd.prog 8 #[] w fun e w' => e = .returned (.bool true) ∧ Below w.heap.size w w' := by
  have HN : Hid (NibAt w) := hn
  clear hn
  have hz : (sealS 8 ⟨#[97, 98]⟩).size = 512 := sealS_size (by decide) (by decide) (by decide)
  have HO : Hid (openF 8 (sealS 8 ⟨#[97, 98]⟩) = (padS ⟨#[97, 98]⟩, 0)) := open_seal (by decide) (by decide) (by decide)
  have hp : (padS ⟨#[97, 98]⟩).size = 504 := padS_size (by decide)
  have hq := sp_pad
  have HK : Hid (kindF (sealS 8 ⟨#[97, 98]⟩) = 8) := seal_kindF (by decide) (by decide) (by decide)
  generalize padS ⟨#[97, 98]⟩ = b at *
  go_enter Tryd.func8, Tryd.ntmps8
  go_wp2_with fail
  refine (seal_yes _ _ _ (by decide) (by decide) (by decide) HN.out).mono ?_
  rintro e w1 ⟨rfl, hb1⟩
  generalize sealS 8 ⟨#[97, 98]⟩ = s at *
  have HN1 : Hid (NibAt w1) := HN.out.below hb1
  go_wp2_with fail
  refine (openM_any _ _ _ HN1.out).mono ?_
  rintro e w2 ⟨rfl, hb2⟩
  rw [HO.out, errV_zero]
  have HB2 : Hid (Below w.heap.size w w2) := hb1.trans (hb2.mono hb1.size)
  have HN2 : Hid (NibAt w2) := HN.out.below HB2.out
  clear hb1 hb2
  go_wp2_with fail
  refine (sum_any _ _ (by decide) HN2.out).mono ?_
  rintro e w2 ⟨rfl, rfl⟩
  rw [sp_sum]
  go_wp2_with fail
  refine (kindM_any _ _ HN2.out).mono ?_
  rintro e w3 ⟨rfl, hb3⟩
  rw [HK.out]
  go_wp2
  go_ret
  exact ⟨rfl, HB2.out.trans (hb3.mono HB2.out.size)⟩

end Go.Proofs.YtiaigboichmepabDoor.Mk
