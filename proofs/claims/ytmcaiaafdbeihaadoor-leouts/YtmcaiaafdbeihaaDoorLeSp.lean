/-
  'speaks' of layer 1's statements answers true, and turns nothing that was there. No condition.
-/
import Derived.Test.YtmcaiaafdbeihaaDoorLeIn
namespace Go.Proofs.YtmcaiaafdbeihaaDoor.Le
open Go.ChangeShapes Go.WideShapes Go.ChangeAt Go.RowKit Go.Lib

theorem OutS_new (w : World) : OutS (w.alloc (.cells #[.slice none 0 0, .bool false] 26)) w.heap.size (some []) := by
  refine ⟨.slice none 0 0, ?_, World.ownsRow_nil _ _ _ _⟩
  show (w.heap.push _)[w.heap.size]? = _
  simp

theorem sp1 : numF (some []) 258 3 = some [2, 1, 0] := by decide +kernel
theorem sp2 : textF (some [2, 1, 0]) ⟨#[97]⟩ 2 = some [2, 1, 0, 97, 0] := by decide +kernel
theorem sp3 : inNumF ⟨#[2, 1, 0, 97, 0]⟩ 0 3 = (258, ⟨#[97, 0]⟩, 0) := by decide +kernel
theorem sp4 : takeF ⟨#[97, 0]⟩ 0 2 = (⟨#[97, 0]⟩, ByteArray.empty, 0) := by decide +kernel
theorem sp5 : errV (endF ByteArray.empty 0) = .nilIface := rfl
theorem sp6 : putF 5 1 = ⟨#[5]⟩ := by decide +kernel

set_option maxRecDepth 100000 in
set_option maxHeartbeats 400000 in
theorem speaks_any (w : World) :
    Calls Tryd.prog 6 #[] w fun r w' => r = .returned (.bool true) ∧ Below w.heap.size w w' := by
  go_enter Tryd.func6, Tryd.ntmps6
  go_wp2_with fail
  refine (num_any _ w.heap.size _ _ _ (OutS_new w) (by simp)).mono ?_
  rintro r w1 ⟨rfl, ho1, hb1⟩
  rw [sp1] at ho1
  go_wp2_with fail
  refine (text_any _ w.heap.size _ _ _ ho1 (by simp)).mono ?_
  rintro r w2 ⟨rfl, ho2, hb2⟩
  rw [sp2] at ho2
  go_wp2_with fail
  refine (string_some _ w.heap.size _ ho2).mono ?_
  rintro r w2 ⟨rfl, rfl⟩
  go_wp2_with fail
  refine (read_any _ _).mono ?_
  rintro r w3 ⟨rfl, rfl⟩
  have hi3 := InS_new w2 ⟨#[2, 1, 0, 97, 0]⟩
  have hB : w.heap.size ≤ w2.heap.size := by have := hb1.size; have := hb2.size; simp at *; omega
  have hb3 : Below w.heap.size w (w2.alloc (.cells #[.string ⟨#[2, 1, 0, 97, 0]⟩, .nilIface] 58)) :=
    ((((Below.refl _ _).alloc (Nat.le_refl _) _).trans hb1).trans hb2).alloc hB _
  have HB : Hid (Below w.heap.size w (w2.alloc (.cells #[.string ⟨#[2, 1, 0, 97, 0]⟩, .nilIface] 58))) := hb3
  have HI : Hid (InS (w2.alloc (.cells #[.string ⟨#[2, 1, 0, 97, 0]⟩, .nilIface] 58)) w2.heap.size ⟨#[2, 1, 0, 97, 0]⟩ 0) := hi3
  clear ho1 ho2 hb1 hb2 hi3 hb3
  go_wp2_with fail
  refine (innum_any _ _ _ _ _ HI.out).mono ?_
  rintro r w3 ⟨rfl, hi3, ho3⟩
  rw [sp3] at hi3 ⊢
  go_wp2_with fail
  refine (intext_any _ _ _ _ _ hi3).mono ?_
  rintro r w4 ⟨rfl, hi4, ho4⟩
  rw [sp4] at hi4 ⊢
  go_wp2_with fail
  refine (end_any _ _ _ _ hi4).mono ?_
  rintro r w4 ⟨rfl, rfl⟩
  rw [sp5]
  have HB4 : Hid (Below w.heap.size w w4) := (HB.out.trans (ho3.below hB)).trans (ho4.below hB)
  clear hi3 hi4 ho3 ho4
  go_wp2_with fail
  refine (put_any _ _ _).mono ?_
  rintro r w5 ⟨rfl, hb5⟩
  rw [sp6]
  go_wp2
  go_ret
  exact ⟨rfl, HB4.out.trans (hb5.mono HB4.out.size)⟩

end Go.Proofs.YtmcaiaafdbeihaaDoor.Le
