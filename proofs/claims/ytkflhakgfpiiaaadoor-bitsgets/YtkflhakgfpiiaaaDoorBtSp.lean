/-
  The first lines of layer 7's statements: two of eight. Condition: the table of four steps holds what its initialiser lays.
-/
import Derived.Test.YtkflhakgfpiiaaaDoorBtP
namespace Go.Proofs.YtkflhakgfpiiaaaDoor.Bt
open Go.ChangeShapes Go.WideShapes Go.ChangeAt Go.RowKit
open Go.Proofs.YtkflhakgfpiiaaaDoor.Mk (NibAt sealS sealM_any sealF sealS_size sealS_data aheadL headS headS_size headS_data)

set_option maxRecDepth 100000
set_option maxHeartbeats 1000000

def B0 : Nat → Nat := fun _ => 0
theorem sp_turn : turnE 8 B0 1 2 false 9 = 0 := by decide +kernel
theorem sp_run : runG (flipsB B0 1 2) 8 3 0 = some 3 := by decide +kernel
theorem sp_has2 : (decide (0 ≤ (2 : Int)) && decide ((2 : Int) < (8 : Nat)) && tk (flipsB B0 1 2) (2 : Int).toNat) = true := by decide +kernel
theorem sp_has3 : (decide (0 ≤ (3 : Int)) && decide ((3 : Int) < (8 : Nat)) && tk (flipsB B0 1 2) (3 : Int).toNat) = false := by decide +kernel
theorem seal_at4 (B : Nat → Nat) (h : 4 < (sealS 5 (bodyS B)).size) : ((sealS 5 (bodyS B))[4]'h).toNat = B 0 % 256 := by
  have e : ((sealS 5 (bodyS B))[4]'h) = (sealS 5 (bodyS B)).data.toList[4]'(by simpa using h) := rfl
  rw [e]
  have hl : (sealS 5 (bodyS B)).data.toList[4]? = some (UInt8.ofNat (B 0)) := by
    rw [sealS_data]
    unfold aheadL
    rw [headS_data (by decide) (by decide)]
    unfold bodyS bodyL
    rw [strOfNums_data]
    rfl
  have h2 := List.getElem?_eq_some_iff.1 hl
  obtain ⟨_, h3⟩ := h2
  rw [h3]
  simp

theorem speaks_any (w : World) (hn : NibAt w) : Calls Tryd.prog 8 #[] w fun r w' => r = .returned (.bool true) ∧ Below w.heap.size w w' := by
  have HN : Hid (NibAt w) := hn
  clear hn
  go_enter Tryd.func8, Tryd.ntmps8
  go_wp2_with fail
  refine (new_yes 8 w (by decide)).mono ?_
  rintro r w1 ⟨rfl, c, hc, hw1⟩
  have HB1 : Hid (Below w.heap.size w w1) := by rw [hw1]; exact (Below.refl _ _).alloc (Nat.le_refl _) _
  have HS1 : Hid (SetAt w1 w.heap.size 8 B0) := ⟨c, by rw [hw1]; exact heap_alloc_new _ _, hc⟩
  clear hw1 hc
  have hT := take_any (.pointer (some ⟨w.heap.size, 0, none⟩)) 8 B0 1 2 w1 (.inr ⟨_, rfl, HS1.out⟩) (by decide)
  go_wp2_with fail
  refine hT.mono ?_
  rintro r w2 ⟨rfl, _, ht⟩
  obtain ⟨b', hb', hS2, hU2⟩ := ht sp_turn
  cases hb'
  rw [sp_turn, show errV 0 = .nilIface from rfl]
  have HS2 : Hid (SetAt w2 w.heap.size 8 (flipsB B0 1 2)) := hS2
  have HB2 : Hid (Below w.heap.size w w2) := HB1.out.trans (hU2.below (Nat.le_refl _) HB1.out.size)
  clear hT ht hS2 hU2 HS1 HB1
  have hP := put_any w.heap.size 8 (flipsB B0 1 2) w2 HS2.out (HN.out.below HB2.out)
  have hz : (sealS 5 (bodyS (flipsB B0 1 2))).size = 512 := sealS_size (by decide) (by decide) (by rw [bodyS_size]; decide)
  have h4 := seal_at4 (flipsB B0 1 2)
  rw [show flipsB B0 1 2 0 % 256 = 6 by decide +kernel] at h4
  generalize sealS 5 (bodyS (flipsB B0 1 2)) = s at *
  go_wp2_with fail
  refine hP.mono ?_
  rintro r w3 ⟨rfl, hb3⟩
  have HS3 : Hid (SetAt w3 w.heap.size 8 (flipsB B0 1 2)) := HS2.out.below hb3 (Nat.le_refl _)
  have HB3 : Hid (Below w.heap.size w w3) := HB2.out.trans (hb3.mono HB2.out.size)
  clear hP hb3
  have hR := run_any (.pointer (some ⟨w.heap.size, 0, none⟩)) 8 (flipsB B0 1 2) 3 0 w3 (.inr ⟨_, rfl, HS3.out⟩) (by decide)
  rw [sp_run, show optN (some 3) = .tuple #[.int .i64 3, .bool true] from rfl] at hR
  go_wp2_with fail
  refine hR.mono ?_
  rintro r w4 ⟨rfl, hb4⟩
  have HS4 : Hid (SetAt w4 w.heap.size 8 (flipsB B0 1 2)) := HS3.out.below hb4 (Nat.le_refl _)
  have HB4 : Hid (Below w.heap.size w w4) := HB3.out.trans (hb4.mono HB3.out.size)
  clear hR hb4
  have hH := has_any (.pointer (some ⟨w.heap.size, 0, none⟩)) 8 (flipsB B0 1 2) 2 w4 (.inr ⟨_, rfl, HS4.out⟩) (by decide)
  rw [sp_has2] at hH
  have h4' : (s[4]'(by rw [hz]; decide)).toNat = 6 := h4 _
  have h4i : (((s[4]'(by rw [hz]; decide)).toNat : Nat) : Int) = 6 := by rw [h4']; rfl
  clear h4
  go_wp2_with fail
  refine hH.mono ?_
  rintro r w5 ⟨rfl, hb5⟩
  have HS5 : Hid (SetAt w5 w.heap.size 8 (flipsB B0 1 2)) := HS4.out.below hb5 (Nat.le_refl _)
  have HB5 : Hid (Below w.heap.size w w5) := HB4.out.trans (hb5.mono HB4.out.size)
  clear hH hb5
  have hH := has_any (.pointer (some ⟨w.heap.size, 0, none⟩)) 8 (flipsB B0 1 2) 3 w5 (.inr ⟨_, rfl, HS5.out⟩) (by decide)
  rw [sp_has3] at hH
  go_wp2_with fail
  refine hH.mono ?_
  rintro r w6 ⟨rfl, hb6⟩
  have HB6 : Hid (Below w.heap.size w w6) := HB5.out.trans (hb6.mono HB5.out.size)
  clear hH hb6
  go_wp2
  go_ret
  exact ⟨rfl, HB6.out⟩

end Go.Proofs.YtkflhakgfpiiaaaDoor.Bt
