/-
  BitsNone answers true for every input: bounds that may not be, no set. Condition: the table of four steps, and errors.errorType, hold what their initialisers lay.
-/
import Derived.Test.YtkflhakgfpiiaaaDoorBtSp
import Derived.Test.YtkflhakgfpiiaaaDoorSlSeals
namespace Go.Proofs.YtkflhakgfpiiaaaDoor.Bt
open Go.ChangeShapes Go.WideShapes Go.ChangeAt Go.RowKit
open Go.Proofs.YtkflhakgfpiiaaaDoor.Mk (NibAt)
open Go.Proofs.YtkflhakgfpiiaaaDoor.As (ErrT)

set_option maxRecDepth 100000
set_option maxHeartbeats 1000000

theorem code_any (e : Int) (w : World) (hE : ErrT w) : Calls Tryd.prog 11 #[errV e] w fun r w' => r = .returned (.int .i64 e) ∧ Below w.heap.size w w' := by
  have hN := Mk.number_errV e w hE
  rw [show Mk.errV e = errV e from rfl] at hN
  generalize errV e = ev at *
  go_enter Tryd.func11, Tryd.ntmps11
  go_wp2_with fail
  refine hN.mono ?_
  rintro r w1 ⟨rfl, hb⟩
  go_wp2
  go_ret
  exact ⟨rfl, hb⟩

theorem copy_nil (w : World) : Calls Tryd.prog 25 #[.pointer none] w fun r w' => r = .returned (.pointer none) ∧ w' = w := by
  go_enter Tryd.func25, Tryd.ntmps25
  go_wp2
  go_ret
  exact ⟨rfl, rfl⟩

theorem none_V (w : World) : SetV w (.pointer none) 0 B0 := .inl ⟨rfl, rfl⟩
theorem none_turn (i : Int) (t : Bool) (o : Int) : turnE 0 B0 i 1 t o = 1 := by
  unfold turnE insideF
  rw [if_neg]
  simp only [Bool.and_eq_true, decide_eq_true_eq]
  omega

theorem bitsNone_walk (n i : Int) (w : World) (hi : i ≤ 9223372036854775807) (hE : ErrT w) (hn : NibAt w) :
    Calls Tryd.prog 7 #[.int .i64 n, .int .i64 i] w fun r w' => r = .returned (.bool true) ∧ Below w.heap.size w w' := by
  have HE : Hid (ErrT w) := hE
  have HN : Hid (NibAt w) := hn
  clear hE hn
  have hnew : ∃ (sv : World → Value) (ev : Value), Hid (∀ w : World, Calls Tryd.prog 9 #[.int .i64 n] w fun r w' => r = .returned (.tuple #[sv w, ev]) ∧ Below w.heap.size w w') ∧ ((1 ≤ n ∧ n ≤ 4000 ∧ ev = .nilIface ∧ ∀ w, ∃ b, sv w = .pointer (some ⟨b, 0, none⟩)) ∨ (¬ (1 ≤ n ∧ n ≤ 4000) ∧ ev = errV 1 ∧ ∀ w, sv w = .pointer none)) := by
    by_cases h : 1 ≤ n ∧ n ≤ 4000
    · obtain ⟨k, rfl⟩ : ∃ k : Nat, n = k := ⟨n.toNat, by omega⟩
      refine ⟨fun w => .pointer (some ⟨w.heap.size, 0, none⟩), .nilIface, fun w => ?_, .inl ⟨h.1, h.2, rfl, fun w => ⟨_, rfl⟩⟩⟩
      refine (new_yes k w (by rw [decide_eq_true h.1, decide_eq_true h.2]; rfl)).mono ?_
      rintro r w' ⟨rfl, c, _, rfl⟩
      exact ⟨rfl, (Below.refl _ _).alloc (Nat.le_refl _) _⟩
    · refine ⟨fun _ => .pointer none, errV 1, fun w => ?_, .inr ⟨h, rfl, fun _ => rfl⟩⟩
      refine (new_no n w ?_).mono ?_
      · simp only [Bool.and_eq_false_iff, decide_eq_false_iff_not]; omega
      · rintro r w' ⟨rfl, rfl⟩; exact ⟨rfl, Below.refl _ _⟩
  obtain ⟨sv, ev, HNEW, hcase⟩ := hnew
  go_enter Tryd.func7, Tryd.ntmps7
  go_wp2_with fail
  refine (speaks_any _ HN.out).mono ?_
  rintro r w1 ⟨rfl, hb1⟩
  have HB1 : Hid (Below w.heap.size w w1) := hb1
  clear hb1
  go_wp2_with fail
  refine (HNEW.out w1).mono ?_
  rintro r w2 ⟨rfl, hb2⟩
  have HB2 : Hid (Below w.heap.size w w2) := HB1.out.trans (hb2.mono HB1.out.size)
  clear hb2 HNEW
  rcases hcase with ⟨h1, h2, rfl, hsv⟩ | ⟨h12, rfl, hsv⟩
  · obtain ⟨b, hb⟩ := hsv w1
    rw [hb]
    clear hsv hb sv
    go_wp2_with fail
    refine (size_any _ _ _ _ (none_V _)).mono ?_
    rintro r w3 ⟨rfl, hb⟩
    rw [show cnt B0 0 0 = 0 from rfl]
    have HB3 : Hid (Below w.heap.size w w3) := HB2.out.trans (hb.mono HB2.out.size)
    clear hb
    go_wp2_with fail
    refine (run_any _ _ _ 1 0 _ (none_V _) (by decide)).mono ?_
    rintro r w4 ⟨rfl, hb⟩
    rw [show optN (runG B0 0 1 0) = .tuple #[.int .i64 0, .bool false] from rfl]
    have HB4 : Hid (Below w.heap.size w w4) := HB3.out.trans (hb.mono HB3.out.size)
    clear hb
    go_wp2_with fail
    refine (longest_any _ _ _ _ (none_V _)).mono ?_
    rintro r w5 ⟨rfl, hb⟩
    rw [show longF (runsL B0 0 0 0) (0, 0) = (0, 0) from rfl]
    have HB5 : Hid (Below w.heap.size w w5) := HB4.out.trans (hb.mono HB4.out.size)
    clear hb
    go_wp2_with fail
    refine (put_nil _).mono ?_
    rintro r w5' ⟨rfl, rfl⟩
    generalize hev : errV 1 = ev1 at *
    have HC : Hid (∀ w, ErrT w → Calls Tryd.prog 11 #[ev1] w fun r w' => r = .returned (.int .i64 1) ∧ Below w.heap.size w w') := fun w hE => by rw [← hev]; exact code_any 1 w hE
    have HEV : Hid (errV 1 = ev1) := hev
    clear hev
    go_wp2_with fail
    refine (HC.out _ (HE.out.below HB5.out HE.out.lt)).mono ?_
    rintro r w6 ⟨rfl, hb⟩
    have HB6 : Hid (Below w.heap.size w w6) := HB5.out.trans (hb.mono HB5.out.size)
    clear hb
    go_wp2_with fail
    refine (has_any _ 0 B0 i _ (none_V _) hi).mono ?_
    rintro r w7 ⟨rfl, hb⟩
    rw [show (decide (0 ≤ i) && decide (i < ((0 : Nat) : Int)) && tk B0 i.toNat) = false by
      by_cases h : 0 ≤ i
      · rw [decide_eq_false (show ¬ i < ((0 : Nat) : Int) by omega), Bool.and_false, Bool.false_and]
      · rw [decide_eq_false h, Bool.false_and, Bool.false_and]]
    have HB7 : Hid (Below w.heap.size w w7) := HB6.out.trans (hb.mono HB6.out.size)
    clear hb
    go_wp2_with fail
    refine (take_any _ 0 B0 i 1 _ (none_V _) hi).mono ?_
    rintro r w8 ⟨rfl, hb, _⟩
    rw [none_turn, HEV.out]
    have HB8 : Hid (Below w.heap.size w w8) := HB7.out.trans ((hb (by rw [none_turn]; decide)).mono HB7.out.size)
    clear hb
    go_wp2_with fail
    refine (HC.out _ (HE.out.below HB8.out HE.out.lt)).mono ?_
    rintro r w9 ⟨rfl, hb⟩
    have HB9 : Hid (Below w.heap.size w w9) := HB8.out.trans (hb.mono HB8.out.size)
    clear hb
    go_wp2_with fail
    refine (give_any _ 0 B0 i 1 _ (none_V _) hi).mono ?_
    rintro r wa ⟨rfl, hb, _⟩
    rw [none_turn, HEV.out]
    have HBa : Hid (Below w.heap.size w wa) := HB9.out.trans ((hb (by rw [none_turn]; decide)).mono HB9.out.size)
    clear hb
    go_wp2_with fail
    refine (HC.out _ (HE.out.below HBa.out HE.out.lt)).mono ?_
    rintro r wb ⟨rfl, hb⟩
    have HBb : Hid (Below w.heap.size w wb) := HBa.out.trans (hb.mono HBa.out.size)
    clear hb
    go_wp2_with fail
    refine (copy_nil _).mono ?_
    rintro r wc ⟨rfl, rfl⟩
    go_wp2
    go_ret
    exact ⟨rfl, HBb.out⟩
  · rw [hsv w1, show errV 1 = .iface 57 (.int .i64 1) from rfl]
    clear hsv sv
    by_cases h1 : 1 ≤ n
    · have h2 : decide (n ≤ 4000) = false := decide_eq_false (fun h => h12 ⟨h1, h⟩)
      clear h12
      go_wp2_with fail
      refine (size_any _ _ _ _ (none_V _)).mono ?_
      rintro r w3 ⟨rfl, hb⟩
      rw [show cnt B0 0 0 = 0 from rfl]
      have HB3 : Hid (Below w.heap.size w w3) := HB2.out.trans (hb.mono HB2.out.size)
      clear hb
      go_wp2_with fail
      refine (run_any _ _ _ 1 0 _ (none_V _) (by decide)).mono ?_
      rintro r w4 ⟨rfl, hb⟩
      rw [show optN (runG B0 0 1 0) = .tuple #[.int .i64 0, .bool false] from rfl]
      have HB4 : Hid (Below w.heap.size w w4) := HB3.out.trans (hb.mono HB3.out.size)
      clear hb
      go_wp2_with fail
      refine (longest_any _ _ _ _ (none_V _)).mono ?_
      rintro r w5 ⟨rfl, hb⟩
      rw [show longF (runsL B0 0 0 0) (0, 0) = (0, 0) from rfl]
      have HB5 : Hid (Below w.heap.size w w5) := HB4.out.trans (hb.mono HB4.out.size)
      clear hb
      go_wp2_with fail
      refine (put_nil _).mono ?_
      rintro r w5' ⟨rfl, rfl⟩
      generalize hev : errV 1 = ev1 at *
      have HC : Hid (∀ w, ErrT w → Calls Tryd.prog 11 #[ev1] w fun r w' => r = .returned (.int .i64 1) ∧ Below w.heap.size w w') := fun w hE => by rw [← hev]; exact code_any 1 w hE
      have HEV : Hid (errV 1 = ev1) := hev
      clear hev
      go_wp2_with fail
      refine (HC.out _ (HE.out.below HB5.out HE.out.lt)).mono ?_
      rintro r w6 ⟨rfl, hb⟩
      have HB6 : Hid (Below w.heap.size w w6) := HB5.out.trans (hb.mono HB5.out.size)
      clear hb
      go_wp2_with fail
      refine (has_any _ 0 B0 i _ (none_V _) hi).mono ?_
      rintro r w7 ⟨rfl, hb⟩
      rw [show (decide (0 ≤ i) && decide (i < ((0 : Nat) : Int)) && tk B0 i.toNat) = false by
        by_cases h : 0 ≤ i
        · rw [decide_eq_false (show ¬ i < ((0 : Nat) : Int) by omega), Bool.and_false, Bool.false_and]
        · rw [decide_eq_false h, Bool.false_and, Bool.false_and]]
      have HB7 : Hid (Below w.heap.size w w7) := HB6.out.trans (hb.mono HB6.out.size)
      clear hb
      go_wp2_with fail
      refine (take_any _ 0 B0 i 1 _ (none_V _) hi).mono ?_
      rintro r w8 ⟨rfl, hb, _⟩
      rw [none_turn, HEV.out]
      have HB8 : Hid (Below w.heap.size w w8) := HB7.out.trans ((hb (by rw [none_turn]; decide)).mono HB7.out.size)
      clear hb
      go_wp2_with fail
      refine (HC.out _ (HE.out.below HB8.out HE.out.lt)).mono ?_
      rintro r w9 ⟨rfl, hb⟩
      have HB9 : Hid (Below w.heap.size w w9) := HB8.out.trans (hb.mono HB8.out.size)
      clear hb
      go_wp2_with fail
      refine (give_any _ 0 B0 i 1 _ (none_V _) hi).mono ?_
      rintro r wa ⟨rfl, hb, _⟩
      rw [none_turn, HEV.out]
      have HBa : Hid (Below w.heap.size w wa) := HB9.out.trans ((hb (by rw [none_turn]; decide)).mono HB9.out.size)
      clear hb
      go_wp2_with fail
      refine (HC.out _ (HE.out.below HBa.out HE.out.lt)).mono ?_
      rintro r wb ⟨rfl, hb⟩
      have HBb : Hid (Below w.heap.size w wb) := HBa.out.trans (hb.mono HBa.out.size)
      clear hb
      go_wp2_with fail
      refine (copy_nil _).mono ?_
      rintro r wc ⟨rfl, rfl⟩
      go_wp2
      go_ret
      exact ⟨rfl, HBb.out⟩
    · clear h12
      go_wp2_with fail
      refine (size_any _ _ _ _ (none_V _)).mono ?_
      rintro r w3 ⟨rfl, hb⟩
      rw [show cnt B0 0 0 = 0 from rfl]
      have HB3 : Hid (Below w.heap.size w w3) := HB2.out.trans (hb.mono HB2.out.size)
      clear hb
      go_wp2_with fail
      refine (run_any _ _ _ 1 0 _ (none_V _) (by decide)).mono ?_
      rintro r w4 ⟨rfl, hb⟩
      rw [show optN (runG B0 0 1 0) = .tuple #[.int .i64 0, .bool false] from rfl]
      have HB4 : Hid (Below w.heap.size w w4) := HB3.out.trans (hb.mono HB3.out.size)
      clear hb
      go_wp2_with fail
      refine (longest_any _ _ _ _ (none_V _)).mono ?_
      rintro r w5 ⟨rfl, hb⟩
      rw [show longF (runsL B0 0 0 0) (0, 0) = (0, 0) from rfl]
      have HB5 : Hid (Below w.heap.size w w5) := HB4.out.trans (hb.mono HB4.out.size)
      clear hb
      go_wp2_with fail
      refine (put_nil _).mono ?_
      rintro r w5' ⟨rfl, rfl⟩
      generalize hev : errV 1 = ev1 at *
      have HC : Hid (∀ w, ErrT w → Calls Tryd.prog 11 #[ev1] w fun r w' => r = .returned (.int .i64 1) ∧ Below w.heap.size w w') := fun w hE => by rw [← hev]; exact code_any 1 w hE
      have HEV : Hid (errV 1 = ev1) := hev
      clear hev
      go_wp2_with fail
      refine (HC.out _ (HE.out.below HB5.out HE.out.lt)).mono ?_
      rintro r w6 ⟨rfl, hb⟩
      have HB6 : Hid (Below w.heap.size w w6) := HB5.out.trans (hb.mono HB5.out.size)
      clear hb
      go_wp2_with fail
      refine (has_any _ 0 B0 i _ (none_V _) hi).mono ?_
      rintro r w7 ⟨rfl, hb⟩
      rw [show (decide (0 ≤ i) && decide (i < ((0 : Nat) : Int)) && tk B0 i.toNat) = false by
        by_cases h : 0 ≤ i
        · rw [decide_eq_false (show ¬ i < ((0 : Nat) : Int) by omega), Bool.and_false, Bool.false_and]
        · rw [decide_eq_false h, Bool.false_and, Bool.false_and]]
      have HB7 : Hid (Below w.heap.size w w7) := HB6.out.trans (hb.mono HB6.out.size)
      clear hb
      go_wp2_with fail
      refine (take_any _ 0 B0 i 1 _ (none_V _) hi).mono ?_
      rintro r w8 ⟨rfl, hb, _⟩
      rw [none_turn, HEV.out]
      have HB8 : Hid (Below w.heap.size w w8) := HB7.out.trans ((hb (by rw [none_turn]; decide)).mono HB7.out.size)
      clear hb
      go_wp2_with fail
      refine (HC.out _ (HE.out.below HB8.out HE.out.lt)).mono ?_
      rintro r w9 ⟨rfl, hb⟩
      have HB9 : Hid (Below w.heap.size w w9) := HB8.out.trans (hb.mono HB8.out.size)
      clear hb
      go_wp2_with fail
      refine (give_any _ 0 B0 i 1 _ (none_V _) hi).mono ?_
      rintro r wa ⟨rfl, hb, _⟩
      rw [none_turn, HEV.out]
      have HBa : Hid (Below w.heap.size w wa) := HB9.out.trans ((hb (by rw [none_turn]; decide)).mono HB9.out.size)
      clear hb
      go_wp2_with fail
      refine (HC.out _ (HE.out.below HBa.out HE.out.lt)).mono ?_
      rintro r wb ⟨rfl, hb⟩
      have HBb : Hid (Below w.heap.size w wb) := HBa.out.trans (hb.mono HBa.out.size)
      clear hb
      go_wp2_with fail
      refine (copy_nil _).mono ?_
      rintro r wc ⟨rfl, rfl⟩
      go_wp2
      go_ret
      exact ⟨rfl, HBb.out⟩

theorem bitsNone_calls (n i : Int) (w : World) (_ : (Lit.int .i64 n).wf = true) (h2 : (Lit.int .i64 i).wf = true) (hE : ErrT w) (hn : NibAt w) :
    Calls Tryd.prog 7 #[.int .i64 n, .int .i64 i] w fun r w' => r = .returned (.bool true) ∧ Below w.heap.size w w' := by
  simp only [Lit.wf, IntKind.min, IntKind.max, IntKind.signed, IntKind.bits, Bool.and_eq_true, decide_eq_true_eq, if_true] at h2
  exact bitsNone_walk n i w (by omega) hE hn

end Go.Proofs.YtkflhakgfpiiaaaDoor.Bt
