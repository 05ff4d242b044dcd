/-
  NvmeRefuses answers true for every input: devices that may not be, and none. Condition: errors.errorType holds its handle.
-/
import Derived.Test.YtkfphmhnaelflaaDoorNvNil
import Derived.Test.YtkfphmhnaelflaaDoorNvCode
namespace Go.Proofs.YtkfphmhnaelflaaDoor.Nv
open Go.ChangeShapes Go.WideShapes Go.ChangeAt Go.RowKit
open Go.Proofs.YtkfphmhnaelflaaDoor.As (ErrT)

set_option maxRecDepth 100000
set_option maxHeartbeats 4000000

theorem code_one (w : World) (hE : ErrT w) : Calls Tryd.prog 10 #[.iface 67 (.int .i64 1)] w fun r w' => r = .returned (.int .i64 1) ∧ Below w.heap.size w w' := code_any 1 w hE

theorem nvmeRefuses_walk (n k : Int) (w : World) (hE : ErrT w) :
    Calls Tryd.prog 4 #[.int .i64 n, .int .i64 k] w fun r w' => r = .returned (.bool true) ∧ Below w.heap.size w w' := by
  have HE : Hid (ErrT w) := hE
  clear hE
  by_cases hok : (1 ≤ n ∧ n ≤ 2048) ∧ 1 ≤ k ∧ k ≤ 64
  · obtain ⟨⟨n1, n2⟩, k1, k2⟩ := hok
    obtain ⟨nn, rfl⟩ : ∃ nn : Nat, n = (nn : Int) := ⟨n.toNat, by omega⟩
    obtain ⟨kk, rfl⟩ : ∃ kk : Nat, k = (kk : Int) := ⟨k.toNat, by omega⟩
    go_enter Tryd.func4, Tryd.ntmps4
    go_wp2_with fail
    refine (speaks_any w).mono ?_
    rintro e w1 ⟨rfl, hb1⟩
    have HB1 : Hid (Below w.heap.size w w1) := hb1
    clear hb1
    go_wp2_with fail
    refine (new_any nn kk (by omega) (by omega) (by omega) (by omega) w1).mono ?_
    rintro e w2 ⟨b, rfl, hd2, hb2⟩
    have HD2 : Hid (Lives w1.heap.size w2 b (newD nn kk)) := hd2
    have HB2 : Hid (Below w.heap.size w w2) := HB1.out.trans (hb2.mono HB1.out.size)
    clear hd2 hb2
    go_wp2_with fail
    obtain ⟨vl, vc, vw, vk, hd⟩ := HD2.out
    refine (size_any hd).mono ?_
    rintro e w3 ⟨rfl, hb3⟩
    have HB3 : Hid (Below w.heap.size w w3) := HB2.out.trans (hb3.mono HB2.out.size)
    clear hd hb3
    rw [show ((newD nn kk).lasting.length : Int) = (nn : Int) by simp [newD], show (newD nn kk).depth = (kk : Int) from rfl]
    go_wp2_with fail
    refine (complete_nil 0 _).mono ?_
    rintro e w4 ⟨rfl, hb4⟩
    have HB4 : Hid (Below w.heap.size w w4) := HB3.out.trans (hb4.mono HB3.out.size)
    clear hb4
    rw [show noCmd.agg = .agg #[.int .i64 0, .int .i64 0, .string ⟨#[]⟩, .int .i64 0] from rfl, show errV 1 = .iface 67 (.int .i64 1) from rfl]
    go_wp2_with fail
    refine (look_nil 0 _).mono ?_
    rintro e w5 ⟨rfl, rfl⟩
    rw [show errV 1 = .iface 67 (.int .i64 1) from rfl]
    go_wp2_with fail
    refine (fail_nil 1 _ _).mono ?_
    rintro e w6 ⟨⟨u6, rfl⟩, rfl⟩
    go_wp2_with fail
    refine (crash_nil _ _).mono ?_
    rintro e w7 ⟨⟨u7, rfl⟩, rfl⟩
    go_wp2_with fail
    refine (boot_nil _).mono ?_
    rintro e w8 ⟨⟨u8, rfl⟩, rfl⟩
    go_wp2_with fail
    refine (counts_nil _).mono ?_
    rintro e w9 ⟨rfl, rfl⟩
    obtain ⟨wA, hwA⟩ : ∃ wA, wA = w4.alloc (Obj.cells #[.int .i64 0, .int .i64 0, .string ⟨#[]⟩, .int .i64 0] 38) := ⟨_, rfl⟩
    have HBA : Hid (Below w.heap.size w wA) := by rw [hwA]; exact HB4.out.alloc HB4.out.size _
    go_wp2_with fail
    rw [← hwA]
    clear hwA
    have HBB : Hid (Below w.heap.size w wA) := HBA.out
    refine (submit_nil ⟨1, 0, ⟨#[]⟩, 0⟩ _).mono ?_
    rintro e wC ⟨rfl, hbC⟩
    have HBC : Hid (Below w.heap.size w wC) := HBB.out.trans (hbC.mono HBB.out.size)
    clear hbC
    rw [show errV 1 = .iface 67 (.int .i64 1) from rfl]
    go_wp2_with fail
    refine (code_one wC (HE.out.below HBC.out HE.out.lt)).mono ?_
    rintro e wD ⟨rfl, hbD⟩
    have HBD : Hid (Below w.heap.size w wD) := HBC.out.trans (hbD.mono HBC.out.size)
    clear hbD
    go_wp2_with fail
    refine (code_one wD (HE.out.below HBD.out HE.out.lt)).mono ?_
    rintro e wE ⟨rfl, hbE⟩
    have HBE : Hid (Below w.heap.size w wE) := HBD.out.trans (hbE.mono HBD.out.size)
    clear hbE
    go_wp2_with fail
    refine (code_one wE (HE.out.below HBE.out HE.out.lt)).mono ?_
    rintro e wF ⟨rfl, hbF⟩
    have HBF : Hid (Below w.heap.size w wF) := HBE.out.trans (hbF.mono HBE.out.size)
    clear hbF
    go_wp2_with fail
    refine (down_nil _).mono ?_
    rintro e wG ⟨rfl, rfl⟩
    go_wp2_with fail
    refine (copy_nil _).mono ?_
    rintro e wH ⟨rfl, rfl⟩
    go_wp2_with fail
    refine (pending_nil _).mono ?_
    rintro e wI ⟨rfl, rfl⟩
    go_wp2
    go_ret
    exact ⟨rfl, HBF.out⟩
  · have hbad : (n < 1 ∨ (1 ≤ n ∧ 2048 < n)) ∨ (1 ≤ n ∧ n ≤ 2048 ∧ k < 1) ∨ (1 ≤ n ∧ n ≤ 2048 ∧ 1 ≤ k ∧ 64 < k) := by omega
    have HBAD : Hid ((n < 1 ∨ (1 ≤ n ∧ 2048 < n)) ∨ (1 ≤ n ∧ n ≤ 2048 ∧ k < 1) ∨ (1 ≤ n ∧ n ≤ 2048 ∧ 1 ≤ k ∧ 64 < k)) := hbad
    clear hok
    go_enter Tryd.func4, Tryd.ntmps4
    go_wp2_with fail
    refine (speaks_any w).mono ?_
    rintro e w1 ⟨rfl, hb1⟩
    have HB1 : Hid (Below w.heap.size w w1) := hb1
    clear hb1
    go_wp2_with fail
    refine (new_err n k HBAD.out w1).mono ?_
    rintro e w3 ⟨rfl, rfl⟩
    have HB3 : Hid (Below w.heap.size w w3) := HB1.out
    rw [show errV 1 = .iface 67 (.int .i64 1) from rfl]
    rcases hbad with (g1 | ⟨g1, g2⟩) | ⟨g1, g2, g3⟩ | ⟨g1, g2, g3, g4⟩
    all_goals
      go_wp2_with fail
      refine (size_nil w3).mono ?_
      rintro e w3' ⟨rfl, he3⟩
      subst he3
      go_wp2_with fail
      refine (complete_nil 0 _).mono ?_
      rintro e w4 ⟨rfl, hb4⟩
      have HB4 : Hid (Below w.heap.size w w4) := HB3.out.trans (hb4.mono HB3.out.size)
      clear hb4
      rw [show noCmd.agg = .agg #[.int .i64 0, .int .i64 0, .string ⟨#[]⟩, .int .i64 0] from rfl, show errV 1 = .iface 67 (.int .i64 1) from rfl]
      go_wp2_with fail
      refine (look_nil 0 _).mono ?_
      rintro e w5 ⟨rfl, rfl⟩
      rw [show errV 1 = .iface 67 (.int .i64 1) from rfl]
      go_wp2_with fail
      refine (fail_nil 1 _ _).mono ?_
      rintro e w6 ⟨⟨u6, rfl⟩, rfl⟩
      go_wp2_with fail
      refine (crash_nil _ _).mono ?_
      rintro e w7 ⟨⟨u7, rfl⟩, rfl⟩
      go_wp2_with fail
      refine (boot_nil _).mono ?_
      rintro e w8 ⟨⟨u8, rfl⟩, rfl⟩
      go_wp2_with fail
      refine (counts_nil _).mono ?_
      rintro e w9 ⟨rfl, rfl⟩
      obtain ⟨wA, hwA⟩ : ∃ wA, wA = w4.alloc (Obj.cells #[.int .i64 0, .int .i64 0, .string ⟨#[]⟩, .int .i64 0] 38) := ⟨_, rfl⟩
      have HBA : Hid (Below w.heap.size w wA) := by rw [hwA]; exact HB4.out.alloc HB4.out.size _
      go_wp2_with fail
      rw [← hwA]
      clear hwA
      refine (code_one wA (HE.out.below HBA.out HE.out.lt)).mono ?_
      rintro e wB ⟨rfl, hbB⟩
      have HBB : Hid (Below w.heap.size w wB) := HBA.out.trans (hbB.mono HBA.out.size)
      clear hbB
      go_wp2_with fail
      refine (submit_nil ⟨1, 0, ⟨#[]⟩, 0⟩ _).mono ?_
      rintro e wC ⟨rfl, hbC⟩
      have HBC : Hid (Below w.heap.size w wC) := HBB.out.trans (hbC.mono HBB.out.size)
      clear hbC
      rw [show errV 1 = .iface 67 (.int .i64 1) from rfl]
      go_wp2_with fail
      refine (code_one wC (HE.out.below HBC.out HE.out.lt)).mono ?_
      rintro e wD ⟨rfl, hbD⟩
      have HBD : Hid (Below w.heap.size w wD) := HBC.out.trans (hbD.mono HBC.out.size)
      clear hbD
      go_wp2_with fail
      refine (code_one wD (HE.out.below HBD.out HE.out.lt)).mono ?_
      rintro e wE ⟨rfl, hbE⟩
      have HBE : Hid (Below w.heap.size w wE) := HBD.out.trans (hbE.mono HBD.out.size)
      clear hbE
      go_wp2_with fail
      refine (code_one wE (HE.out.below HBE.out HE.out.lt)).mono ?_
      rintro e wF ⟨rfl, hbF⟩
      have HBF : Hid (Below w.heap.size w wF) := HBE.out.trans (hbF.mono HBE.out.size)
      clear hbF
      go_wp2_with fail
      refine (down_nil _).mono ?_
      rintro e wG ⟨rfl, rfl⟩
      go_wp2_with fail
      refine (copy_nil _).mono ?_
      rintro e wH ⟨rfl, rfl⟩
      go_wp2_with fail
      refine (pending_nil _).mono ?_
      rintro e wI ⟨rfl, rfl⟩
      go_wp2
      go_ret
      exact ⟨rfl, HBF.out⟩

theorem nvmeRefuses_calls (n k : Int) (w : World) (_ : (Lit.int .i64 n).wf = true) (_ : (Lit.int .i64 k).wf = true) (hE : ErrT w) :
    Calls Tryd.prog 4 #[.int .i64 n, .int .i64 k] w fun r w' => r = .returned (.bool true) ∧ Below w.heap.size w w' := nvmeRefuses_walk n k w hE

end Go.Proofs.YtkfphmhnaelflaaDoor.Nv
