/-
  SuperOrder answers true for every input: of any layout that is right all its parts lie one behind the other, and no sector is left out. No condition.
-/
import Derived.Test.YtadimbpgdihjlabSuSp
namespace Go.Proofs.Ytadimbpgdihjlab.Su
open Go.ChangeShapes Go.WideShapes Go.ChangeAt Go.RowKit

set_option maxRecDepth 100000
set_option maxHeartbeats 1000000

def intOf : Value → Int | .int _ n => n | _ => 0

theorem superOrder_calls (x y : Int) (w : World) (_ : (Lit.int .i64 x).wf = true) (_ : (Lit.int .i64 y).wf = true) :
    Calls Try.prog 3 #[.int .i64 x, .int .i64 y] w fun r w' => r = .returned (.bool true) ∧ Below w.heap.size w w' := by
  obtain ⟨m, em, hm0, hm1⟩ := mask1023 x
  obtain ⟨k, ek, hk0, hk1⟩ := mask255 y
  have hp : RightP (600 + m) (8 + k) := by unfold RightP; omega
  have hring : Hid (∀ w, Calls Try.prog 5 #[.agg #[.int .i64 (600 + m), .int .i64 (8 + k)]] w fun r w' => r = .returned (.tuple #[.int .i64 1, .int .i64 (8 + k)]) ∧ Below w.heap.size w w') := fun w => by
    have h := ring_any (600 + m) (8 + k) w
    unfold ringF at h
    rw [if_pos hp, if_pos hp] at h
    exact h
  have hbits : Hid (∀ w, Calls Try.prog 6 #[.agg #[.int .i64 (600 + m), .int .i64 (8 + k)]] w fun r w' => r = .returned (.int .i64 (1 + (8 + k))) ∧ Below w.heap.size w w') := fun w => by
    have h := bits_any (600 + m) (8 + k) w
    rw [show bitsF (600 + m) (8 + k) = 1 + (8 + k) from if_pos hp] at h
    exact h
  have hino : Hid (∀ w (i : Nat), i < 4 → Calls Try.prog 7 #[.agg #[.int .i64 (600 + m), .int .i64 (8 + k)], .int .i64 i] w fun r w' => r = .returned (.tuple #[.int .i64 (2 + (8 + k) + i), .bool true]) ∧ Below w.heap.size w w') := fun w i hi => by
    have h := inode_any (600 + m) (8 + k) i w
    unfold inodeF at h
    rw [if_pos ⟨hp, by omega, by omega⟩] at h
    exact h
  have hdata : Hid (∀ w, Calls Try.prog 8 #[.agg #[.int .i64 (600 + m), .int .i64 (8 + k)]] w fun r w' => r = .returned (.tuple #[.int .i64 (6 + (8 + k)), .int .i64 (600 + m - (6 + (8 + k)))]) ∧ Below w.heap.size w w') := fun w => by
    have h := data_any (600 + m) (8 + k) w
    unfold dataF at h
    rw [if_pos hp] at h
    exact h
  clear hp
  go_enter Try.func3, Try.ntmps3
  go_wp2_with fail
  refine (speaks_any _).mono ?_
  rintro r w1 ⟨rfl, hb1⟩
  have HS : Hid (LayAt w1.heap.size (600 + m) (8 + k) (w1.alloc (.cells #[.int .i64 (600 + m), .int .i64 (8 + k)] 24))) := lay_new w1 _ _ _
  have HB1 : Hid (Below w.heap.size w (w1.alloc (.cells #[.int .i64 (600 + m), .int .i64 (8 + k)] 24))) := hb1.alloc hb1.size _
  clear hb1
  go_wp2_with fail
  refine (hring.out _).mono ?_
  rintro r w2 ⟨rfl, hb2⟩
  have HB2 : Hid (Below w.heap.size w w2) := HB1.out.trans (hb2.mono HB1.out.size)
  have HS2 : Hid (LayAt w1.heap.size (600 + m) (8 + k) w2) := HS.out.below hb2
  clear hb2 hring HS HB1
  obtain ⟨c0, c1⟩ := HS2.out.cells
  generalize w1.heap.size = b at *
  go_wp2_with fail
  refine (hbits.out _).mono ?_
  rintro r w3 ⟨rfl, hb3⟩
  have HB3 : Hid (Below w.heap.size w w3) := HB2.out.trans (hb3.mono HB2.out.size)
  have HS3 : Hid (LayAt b (600 + m) (8 + k) w3) := HS2.out.below hb3
  clear hb3 hbits HS2 HB2 c0 c1
  go_wp2_with fail
  go_loopw [8, 9] (fun n i wr => ∃ a : Nat, a ≤ 4 ∧ i = .int .i64 a ∧ n = .int .i64 (9 + k + a) ∧ LayAt b (600 + m) (8 + k) wr ∧ Below w.heap.size w wr) (fun _ i _ => 4 - (intOf i).toNat)
  case atStart => exact ⟨0, by omega, rfl, by go_num, HS3.out, HB3.out⟩
  case round =>
    clear HS3 HB3
    obtain ⟨a, ha, rfl, rfl, hS, hB⟩ := hrel
    have HS4 : Hid (LayAt b (600 + m) (8 + k) wr) := hS
    have HB4 : Hid (Below w.heap.size w wr) := hB
    obtain ⟨c0, c1⟩ := hS.cells
    clear hS hB
    by_cases hlt : a < 4
    · have hI := hino.out wr a hlt
      have hq : (2 + (8 + k) + (a : Int) == 9 + k + a + 1) = true := by rw [beq_iff_eq]; omega
      go_wp2_with fail
      refine hI.mono ?_
      rintro r w5 ⟨rfl, hb5⟩
      have HS5 : Hid (LayAt b (600 + m) (8 + k) w5) := HS4.out.below hb5
      have HB5 : Hid (Below w.heap.size w w5) := HB4.out.trans (hb5.mono HB4.out.size)
      clear hb5 hI
      go_wp2
      go_roundw
      case rel => exact ⟨a + 1, by omega, by go_num, by go_num, HS5.out, HB5.out⟩
      case measure => simp [intOf]; omega
    · obtain rfl : a = 4 := by omega
      have hD := hdata.out wr
      have hq : (6 + (8 + k) == 9 + k + 4 + 1) = true := by rw [beq_iff_eq]; omega
      have hq2 : (6 + (8 + k) + (600 + m - (6 + (8 + k))) == 600 + m) = true := by rw [beq_iff_eq]; omega
      go_wp2_with fail
      refine hD.mono ?_
      rintro r w5 ⟨rfl, hb5⟩
      have HS5 : Hid (LayAt b (600 + m) (8 + k) w5) := HS4.out.below hb5
      have HB5 : Hid (Below w.heap.size w w5) := HB4.out.trans (hb5.mono HB4.out.size)
      clear hb5 hD c0 c1
      obtain ⟨c0, c1⟩ := HS5.out.cells
      go_wp2
      go_ret
      exact ⟨rfl, HB5.out⟩

end Go.Proofs.Ytadimbpgdihjlab.Su
