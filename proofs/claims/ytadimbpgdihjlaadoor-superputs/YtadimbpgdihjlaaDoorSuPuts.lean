/-
  SuperPuts answers true for every input: any layout as a sector, or why it is none, and back. Condition: the table of four steps, and errors.errorType, hold what their initialisers lay.
-/
import Derived.Test.YtadimbpgdihjlaaDoorSuGet
namespace Go.Proofs.YtadimbpgdihjlaaDoor.Su
open Go.ChangeShapes Go.WideShapes Go.ChangeAt Go.RowKit
open Go.Proofs.YtadimbpgdihjlaaDoor.Le (streq_yes)
open Go.Proofs.YtadimbpgdihjlaaDoor.Mk (NibAt openF errV errV_pos errV_zero open_seal sealS padS padS_size)
open Go.Proofs.YtadimbpgdihjlaaDoor.As (ErrT)

set_option maxRecDepth 100000
set_option maxHeartbeats 1000000

theorem code_any (e : Int) (w : World) (hE : ErrT w) : Calls Tryd.prog 18 #[errV e] w fun r w' => r = .returned (.int .i64 e) ∧ Below w.heap.size w w' := by
  have hN := Mk.number_errV e w hE
  generalize errV e = ev at *
  go_enter Tryd.func18, Tryd.ntmps18
  go_wp2_with fail
  refine hN.mono ?_
  rintro r w1 ⟨rfl, hb⟩
  go_wp2
  go_ret
  exact ⟨rfl, hb⟩

theorem open_none : openF 1 ByteArray.empty = (ByteArray.empty, 4) := by
  unfold openF
  rw [if_neg (show ¬ Mk.headOk 1 ByteArray.empty from fun h => absurd h.1 (by decide))]

theorem superPuts_calls (s j : Int) (w : World) (_ : (Lit.int .i64 s).wf = true) (_ : (Lit.int .i64 j).wf = true) (hE : ErrT w) (hn : NibAt w) :
    Calls Tryd.prog 4 #[.int .i64 s, .int .i64 j] w fun r w' => r = .returned (.bool true) ∧ Below w.heap.size w w' := by
  have HE : Hid (ErrT w) := hE
  have HN : Hid (NibAt w) := hn
  clear hE hn
  by_cases hp : RightP s j
  · have HP : Hid (∀ w, NibAt w → _) := fun w h => put_yes s j w hp h
    have HQ : Hid (∀ w, _) := fun w => refput_yes s j w hp
    have hz : (bodyS s j).size ≤ 504 := by rw [bodyS_size hp]; decide
    have HG : Hid (∀ w, NibAt w → Calls Tryd.prog 19 #[.string (sealS 1 (bodyS s j))] w fun r w' => r = .returned (.tuple #[.agg #[.int .i64 s, .int .i64 j], .nilIface]) ∧ Below w.heap.size w w') := fun w h => by
      have := get_any (sealS 1 (bodyS s j)) (padS (bodyS s j)) w h (open_seal (by decide) (by decide) hz) (padS_size hz)
      rw [bodyG_put hp] at this
      exact this
    clear hp hz
    generalize sealS 1 (bodyS s j) = sec at *
    have hq0 : (sec.toList == sec.toList) = true := streq_yes rfl
    go_enter Tryd.func4, Tryd.ntmps4
    go_wp2_with fail
    refine (speaks_any _).mono ?_
    rintro r w1 ⟨rfl, hb1⟩
    have HB1 : Hid (Below w.heap.size w w1) := hb1
    have HX : Hid (Below w.heap.size w (w1.alloc (.cells #[.int .i64 s, .int .i64 j] 56))) := hb1.alloc hb1.size _
    clear hb1
    go_wp2_with fail
    refine (HP.out _ (HN.out.below ?_)).mono ?_
    · first | exact HB1.out | exact HX.out
    rintro r w2 ⟨rfl, hb2⟩
    have HB2 : Hid (Below w.heap.size w w2) := by first | exact HB1.out.trans (hb2.mono HB1.out.size) | exact HX.out.trans (hb2.mono HX.out.size)
    clear hb2 HB1 HX HP
    go_wp2_with fail
    refine (HQ.out _).mono ?_
    rintro r w3 ⟨rfl, hb3⟩
    have HB3 : Hid (Below w.heap.size w w3) := HB2.out.trans (hb3.mono HB2.out.size)
    clear hb3 HB2 HQ
    have hC := code_any 0 w3 (HE.out.below HB3.out HE.out.lt)
    rw [errV_zero] at hC
    go_wp2_with fail
    refine hC.mono ?_
    rintro r w4 ⟨rfl, hb4⟩
    have HB4 : Hid (Below w.heap.size w w4) := HB3.out.trans (hb4.mono HB3.out.size)
    clear hb4 HB3 hC
    go_wp2_with fail
    refine (HG.out _ (HN.out.below HB4.out)).mono ?_
    rintro r w5 ⟨rfl, hb5⟩
    have HB5 : Hid (Below w.heap.size w w5) := HB4.out.trans (hb5.mono HB4.out.size)
    clear hb5 HB4 HG
    go_wp2
    go_ret
    exact ⟨rfl, HB5.out.alloc HB5.out.size _⟩
  · have HP : Hid (∀ w, _) := fun w => put_no s j w hp
    have HQ : Hid (∀ w, _) := fun w => refput_no s j w hp
    have HG : Hid (∀ w, NibAt w → _) := fun w h => get_err ByteArray.empty 4 w h (by rw [open_none]) (by decide)
    have HV : Hid (errV 1 = .iface 66 (.int .i64 1)) := rfl
    have HW : Hid (errV 4 = .iface 66 (.int .i64 4)) := rfl
    clear hp
    generalize ByteArray.empty = sec at *
    have hq0 : (sec.toList == sec.toList) = true := streq_yes rfl
    go_enter Tryd.func4, Tryd.ntmps4
    go_wp2_with fail
    refine (speaks_any _).mono ?_
    rintro r w1 ⟨rfl, hb1⟩
    have HB1 : Hid (Below w.heap.size w w1) := hb1
    have HX : Hid (Below w.heap.size w (w1.alloc (.cells #[.int .i64 s, .int .i64 j] 56))) := hb1.alloc hb1.size _
    clear hb1
    go_wp2_with fail
    refine (HP.out _).mono ?_
    rintro r w2 ⟨rfl, hb2⟩
    rw [HV.out]
    have HB2 : Hid (Below w.heap.size w w2) := by first | exact HB1.out.trans (hb2.mono HB1.out.size) | exact HX.out.trans (hb2.mono HX.out.size)
    clear hb2 HB1 HX HP
    go_wp2_with fail
    refine (HQ.out _).mono ?_
    rintro r w3 ⟨rfl, hb3⟩
    have HB3 : Hid (Below w.heap.size w w3) := HB2.out.trans (hb3.mono HB2.out.size)
    clear hb3 HB2 HQ
    have hC := code_any 1 w3 (HE.out.below HB3.out HE.out.lt)
    rw [HV.out] at hC
    go_wp2_with fail
    refine hC.mono ?_
    rintro r w4 ⟨rfl, hb4⟩
    have HB4 : Hid (Below w.heap.size w w4) := HB3.out.trans (hb4.mono HB3.out.size)
    clear hb4 HB3 hC
    go_wp2_with fail
    refine (HG.out _ (HN.out.below HB4.out)).mono ?_
    rintro r w5 ⟨rfl, hb5⟩
    rw [HW.out]
    have HB5 : Hid (Below w.heap.size w w5) := HB4.out.trans (hb5.mono HB4.out.size)
    clear hb5 HB4 HG
    go_wp2
    go_ret
    exact ⟨rfl, HB5.out.alloc HB5.out.size _⟩

end Go.Proofs.YtadimbpgdihjlaaDoor.Su
