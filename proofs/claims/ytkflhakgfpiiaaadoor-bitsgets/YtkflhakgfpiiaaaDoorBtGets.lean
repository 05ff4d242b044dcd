/-
  BitsGets: the walk. Condition: the table of four steps, and errors.errorType, hold what their initialisers lay.
-/
import Derived.Test.YtkflhakgfpiiaaaDoorBtGetR
namespace Go.Proofs.YtkflhakgfpiiaaaDoor.Bt
open Go.ChangeShapes Go.WideShapes Go.ChangeAt Go.RowKit Go.Proofs.Fa
open Go.Proofs.YtkflhakgfpiiaaaDoor.Mk (NibAt openF sealS refseal_yes)
open Go.Proofs.YtkflhakgfpiiaaaDoor.As (ErrT)

set_option maxRecDepth 100000
set_option maxHeartbeats 1000000

theorem cutG (s : ByteArray) : ∃ n : Nat, min (s.size : Int) 504 = n ∧ (if (504 : Int) < s.size then (504 : Int) else s.size) = n ∧ n ≤ s.size ∧ n ≤ 504 ∧ Hid ((s.extract 0 n).size = n) := by
  refine ⟨min s.size 504, by omega, by split <;> omega, by omega, by omega, ?_⟩
  show _ = _
  rw [ByteArray.size_extract]
  omega
theorem open_cases (s : ByteArray) : (∃ e, (openF 5 s).2 = e ∧ e ≠ 0) ∨ ∃ bd, openF 5 s = (bd, 0) ∧ bd.size = 504 := by
  unfold openF
  by_cases hh : Mk.headOk 5 s
  · rw [if_pos hh]
    by_cases hs : Mk.sumOk s
    · rw [if_pos hs]
      refine .inr ⟨_, rfl, ?_⟩
      rw [ByteArray.size_extract, hh.1]
      rfl
    · rw [if_neg hs]; exact .inl ⟨_, rfl, by decide⟩
  · rw [if_neg hh]; exact .inl ⟨_, rfl, by decide⟩

theorem bitsGets_calls (body : ByteArray) (n cut : Int) (w : World) (_ : body.size ≤ maxLen) (_ : (Lit.int .i64 n).wf = true) (_ : (Lit.int .i64 cut).wf = true) (hE : ErrT w) (hn : NibAt w) :
    Calls Tryd.prog 4 #[.string body, .int .i64 n, .int .i64 cut] w fun r w' => r = .returned (.bool true) ∧ Below w.heap.size w w' := by
  have HN : Hid (NibAt w) := hn
  have HE : Hid (ErrT w) := hE
  clear hn hE
  obtain ⟨la, ea, ea2, hla, hl5, HA⟩ := cutG body
  have HS5 : Hid (∀ W, Calls Tryd.prog 21 #[.int .i64 5, .string (body.extract 0 la)] W fun e w' => e = .returned (.tuple #[.string (sealS 5 (body.extract 0 la)), .int .i64 0]) ∧ Below W.heap.size W w') := fun W => refseal_yes 5 _ W (by decide) (by decide) (by rw [HA.out]; exact hl5)
  have hz : (sealS 5 (body.extract 0 la)).size = 512 := Mk.sealS_size (by decide) (by decide) (by rw [HA.out]; exact hl5)
  clear HA
  have hb3 : bits .and .i64 cut 3 = cut % 4 := Le.i64_and_mask cut 2 (by decide)
  have hbk : bits .and .i64 cut 1023 = cut % 1024 := Le.i64_and_mask cut 10 (by decide)
  go_enter Tryd.func4, Tryd.ntmps4
  go_wp2_with fail
  refine (speaks_any _ HN.out).mono ?_
  rintro r w1 ⟨rfl, hb1⟩
  have HB1 : Hid (Below w.heap.size w w1) := hb1
  clear hb1
  go_wp2_with fail
  refine (HS5.out w1).mono ?_
  rintro r w2 ⟨rfl, hb2⟩
  have HB2 : Hid (Below w.heap.size w w2) := HB1.out.trans (hb2.mono HB1.out.size)
  clear hb2 HS5
  generalize sealS 5 (body.extract 0 la) = s at *
  clear ea ea2 hla hl5
  by_cases h3 : cut % 4 = 3
  all_goals
    first
    | have h3b : (cut % 4 == 3) = true := by rw [h3]; rfl
    | have h3b : (cut % 4 == 3) = false := by simpa using h3
    clear h3
    go_wp2_with fail
  all_goals
    clear hb3 hbk
    first
    | (obtain ⟨s', hs'⟩ : ∃ s', s.extract 0 (cut % 1024).toNat = s' := ⟨_, rfl⟩; rw [hs']; clear hs')
    | (obtain ⟨s', hs'⟩ : ∃ s', s.extract 0 512 = s' := ⟨_, rfl⟩; rw [hs']; clear hs')
    | (obtain ⟨s', hs'⟩ : ∃ s', ByteArray.empty = s' := ⟨_, rfl⟩; rw [hs']; clear hs')
    | (obtain ⟨s', hs'⟩ : ∃ s', s = s' := ⟨_, rfl⟩; rw [hs']; clear hs')
    by_cases hNB : (decide (1 ≤ n) && decide (n ≤ 4000)) = true
    case neg =>
      have hNF : (decide (1 ≤ n) && decide (n ≤ 4000)) = false := by simpa using hNB
      have HNF : Hid ((decide (1 ≤ n) && decide (n ≤ 4000)) = false) := hNF
      clear hNB hNF
      refine (get_arg (w := w2) s' n HNF.out).mono ?_
      rintro r w3 ⟨rfl, hw3⟩
      subst hw3
      go_wp2_with fail
      refine (refget_arg (w := w3) s' n HNF.out).mono ?_
      rintro r w4 ⟨rfl, hw4⟩
      subst hw4
      go_wp2_with fail
      refine (code_any 1 w4 (HE.out.below HB2.out HE.out.lt)).mono ?_
      rintro r w5 ⟨rfl, hb5⟩
      have HB5 : Hid (Below w.heap.size w w5) := HB2.out.trans (hb5.mono HB2.out.size)
      clear hb5
      go_wp2
      all_goals go_ret
      all_goals exact ⟨rfl, HB5.out⟩
    case pos =>
      have hNN := hNB
      simp only [Bool.and_eq_true, decide_eq_true_eq] at hNN
      obtain ⟨q, rfl⟩ : ∃ q : Nat, n = q := ⟨n.toNat, by omega⟩
      have hq1 : 1 ≤ q := by omega
      have hq2 : q ≤ 4000 := by omega
      have HNB : Hid ((decide (1 ≤ (q : Int)) && decide ((q : Int) ≤ 4000)) = true) := hNB
      clear hNB hNN
      rcases open_cases s' with ⟨e, ho, he⟩ | ⟨bd, ho, hbs⟩
      · have HO : Hid ((openF 5 s').2 = e) := ho
        have HNE : Hid (e ≠ 0) := he
        have heb : (e == 0) = false := by simpa using he
        clear ho he
        refine (get_open (w := w2) s' q e (HN.out.below HB2.out) HNB.out HO.out HNE.out).mono ?_
        rintro r w3 ⟨rfl, hb3⟩
        have HB3 : Hid (Below w.heap.size w w3) := HB2.out.trans (hb3.mono HB2.out.size)
        clear hb3
        go_wp2_with fail
        refine (refget_open (w := w3) s' q e hq1 hq2 HO.out HNE.out).mono ?_
        rintro r w4 ⟨rfl, hb4⟩
        have HB4 : Hid (Below w.heap.size w w4) := HB3.out.trans (hb4.mono HB3.out.size)
        clear hb4
        go_wp2_with fail
        refine (code_any e w4 (HE.out.below HB4.out HE.out.lt)).mono ?_
        rintro r w5 ⟨rfl, hb5⟩
        have HB5 : Hid (Below w.heap.size w w5) := HB4.out.trans (hb5.mono HB4.out.size)
        clear hb5
        go_wp2
        all_goals go_ret
        all_goals exact ⟨rfl, HB5.out⟩
      · have HO : Hid (openF 5 s' = (bd, 0)) := ho
        have HBS : Hid (bd.size = 504) := hbs
        clear ho hbs
        refine (get_yes (w := w2) s' bd q (HN.out.below HB2.out) HNB.out HO.out HBS.out).mono ?_
        rintro r w3 ⟨hyes3, hno3, hb3⟩
        have HB3 : Hid (Below w.heap.size w w3) := HB2.out.trans (hb3.mono HB2.out.size)
        clear hb3
        cases hbey : beyB (strB bd) q
        case true =>
          have HBE : Hid (beyB (strB bd) q = true) := hbey
          obtain rfl := hyes3 hbey
          clear hyes3 hno3 hbey
          go_wp2_with fail
          refine (refget_yes (w := w3) s' bd q hq1 hq2 HO.out HBS.out).mono ?_
          rintro r w4 ⟨hyes4, _, hb4⟩
          obtain rfl := hyes4 HBE.out
          have HB4 : Hid (Below w.heap.size w w4) := HB3.out.trans (hb4.mono HB3.out.size)
          clear hyes4 hb4
          go_wp2_with fail
          refine (code_any 4 w4 (HE.out.below HB4.out HE.out.lt)).mono ?_
          rintro r w5 ⟨rfl, hb5⟩
          have HB5 : Hid (Below w.heap.size w w5) := HB4.out.trans (hb5.mono HB4.out.size)
          clear hb5
          go_wp2
          all_goals go_ret
          all_goals exact ⟨rfl, HB5.out⟩
        case false =>
          have HBE : Hid (beyB (strB bd) q = false) := hbey
          obtain ⟨ub, rfl, hU3⟩ := hno3 hbey
          have HU3 : Hid (SetAt w3 ub q (strB bd)) := hU3
          clear hyes3 hno3 hbey hU3
          go_wp2_with fail
          refine (refget_yes (w := w3) s' bd q hq1 hq2 HO.out HBS.out).mono ?_
          rintro r w4 ⟨_, hno4, hb4⟩
          obtain ⟨rv, rfl, hR4⟩ := hno4 HBE.out
          have HB4 : Hid (Below w.heap.size w w4) := HB3.out.trans (hb4.mono HB3.out.size)
          have HU4 : Hid (SetAt w4 ub q (strB bd)) := HU3.out.below hb4 (Nat.le_refl _)
          have HR4 : Hid (RowB w4 w3.heap.size rv q (tk (strB bd))) := hR4
          clear hno4 hb4 hR4
          have hcd := code_any 0 w4 (HE.out.below HB4.out HE.out.lt)
          rw [show errV 0 = .nilIface from rfl] at hcd
          go_wp2_with fail
          refine hcd.mono ?_
          rintro r w5 ⟨rfl, hb5⟩
          have HB5 : Hid (Below w.heap.size w w5) := HB4.out.trans (hb5.mono HB4.out.size)
          have HU5 : Hid (SetAt w5 ub q (strB bd)) := HU4.out.below hb5 (Nat.le_refl _)
          have HR5 : Hid (RowB w5 w3.heap.size rv q (tk (strB bd))) := row_below' HR4.out hb5 (Nat.le_refl _)
          clear hb5 hcd
          go_wp2_with fail
          refine (put_any ub q (strB bd) w5 HU5.out (HN.out.below HB5.out)).mono ?_
          rintro r w6 ⟨rfl, hb6⟩
          have HB6 : Hid (Below w.heap.size w w6) := HB5.out.trans (hb6.mono HB5.out.size)
          have HU6 : Hid (SetAt w6 ub q (strB bd)) := HU5.out.below hb6 (Nat.le_refl _)
          have HR6 : Hid (RowB w6 w3.heap.size rv q (tk (strB bd))) := row_below' HR5.out hb6 (Nat.le_refl _)
          clear hb6
          have hput := fun (W : World) (h : RowB W w3.heap.size rv q (tk (strB bd))) => refput_any (w := W) (C := w3.heap.size) rv q (strB bd) h hq2 (strB_lt bd) (fun i h1 h2 => beyB_free HBE.out i h1 h2)
          have hz5 : (sealS 5 (bodyS (strB bd))).size = 512 := Mk.sealS_size (by decide) (by decide) (by rw [bodyS_size]; decide)
          generalize sealS 5 (bodyS (strB bd)) = ss at *
          go_wp2_with fail
          refine (same_any (w := w6) (C := w3.heap.size) (.pointer (some ⟨ub, 0, none⟩)) rv q (strB bd) (.inr ⟨ub, rfl, HU6.out⟩) HR6.out).mono ?_
          rintro r w7 ⟨rfl, hb7⟩
          have HB7 : Hid (Below w.heap.size w w7) := HB6.out.trans (hb7.mono HB6.out.size)
          have HR7 : Hid (RowB w7 w3.heap.size rv q (tk (strB bd))) := row_below' HR6.out hb7 (Nat.le_refl _)
          clear hb7
          go_wp2_with fail
          refine (hput _ HR7.out).mono ?_
          rintro r w8 ⟨rfl, hb8⟩
          have HB8 : Hid (Below w.heap.size w w8) := HB7.out.trans (hb8.mono HB7.out.size)
          clear hb8 hput
          go_wp2
          all_goals go_ret
          all_goals exact ⟨rfl, HB8.out⟩

end Go.Proofs.YtkflhakgfpiiaaaDoor.Bt
