/-
  The document's Right of an instruction whose parts are within their bounds, by its operation. No condition.
-/
import Derived.Test.YtielliiadacbbaaDoorCdM
namespace Go.Proofs.YtielliiadacbbaaDoor.Cd
open Go.ChangeShapes Go.WideShapes Go.ChangeAt Go.RowKit
open Go.Proofs.YtielliiadacbbaaDoor.Nv (lt_of_heap lt_of_cell cell_of_heap free_of_heap)

set_option maxRecDepth 100000
set_option maxHeartbeats 1000000

theorem refr_0 (d s im : Int) (w : World) (hd : 0 ≤ d ∧ d ≤ 7) (hs : 0 ≤ s ∧ s ≤ 7) (hi : -2147483648 ≤ im ∧ im ≤ 2147483647) :
    Calls Tryd.prog 7 #[.agg #[.int .i64 0, .int .i64 d, .int .i64 s, .int .i64 im]] w fun r w' => r = .returned (.bool (decide (RightP ⟨0, d, s, im⟩))) ∧ Below w.heap.size w w' := by
  have HB : Hid (∀ o, Below w.heap.size w (w.alloc o)) := fun _ => (Below.refl _ _).alloc (Nat.le_refl _) _
  obtain ⟨b, hb⟩ : ∃ b, decide (RightP ⟨0, d, s, im⟩) = b := ⟨_, rfl⟩
  have HD : Hid (decide (RightP ⟨0, d, s, im⟩) = b) := hb
  rw [hb]
  clear hb
  have d0 : decide (d < 0) = false := decide_eq_false (by omega)
  have d7 : decide (7 < d) = false := decide_eq_false (by omega)
  have s0 : decide (s < 0) = false := decide_eq_false (by omega)
  have s7 : decide (7 < s) = false := decide_eq_false (by omega)
  have i0 : decide (im < -2147483648) = false := decide_eq_false (by omega)
  have i7 : decide (2147483647 < im) = false := decide_eq_false (by omega)
  have q0 : ((((⟨#[49, 49, 49, 49, 49, 49, 49, 49, 49, 49, 49, 49, 48, 49, 49, 49, 49, 48, 48, 48, 48, 49]⟩ : ByteArray)[0]'(by decide)).toNat : Int) == 48) = false := by decide
  have q1 : ((((⟨#[48, 49, 49, 49, 48, 48, 48, 49, 49, 49, 49, 49, 48, 49, 49, 49, 49, 48, 48, 48, 48, 49]⟩ : ByteArray)[0]'(by decide)).toNat : Int) == 48) = true := by decide
  have q2 : ((((⟨#[49, 48, 48, 48, 49, 49, 49, 49, 49, 49, 49, 49, 49, 49, 49, 49, 49, 49, 48, 49, 48, 48]⟩ : ByteArray)[0]'(by decide)).toNat : Int) == 48) = false := by decide
  go_enter Tryd.func7, Tryd.ntmps7
  go_wp2
  all_goals go_ret
  all_goals refine ⟨?_, HB.out _⟩
  all_goals refine congrArg _ ?_
  all_goals show Value.bool _ = Value.bool b
  all_goals refine congrArg Value.bool ?_
  all_goals rw [← HD.out]
  all_goals (rw [Bool.eq_iff_iff, decide_eq_true_iff]; unfold RightP lackF immF; simp at *)
  all_goals omega

theorem refr_1 (d s im : Int) (w : World) (hd : 0 ≤ d ∧ d ≤ 7) (hs : 0 ≤ s ∧ s ≤ 7) (hi : -2147483648 ≤ im ∧ im ≤ 2147483647) :
    Calls Tryd.prog 7 #[.agg #[.int .i64 1, .int .i64 d, .int .i64 s, .int .i64 im]] w fun r w' => r = .returned (.bool (decide (RightP ⟨1, d, s, im⟩))) ∧ Below w.heap.size w w' := by
  have HB : Hid (∀ o, Below w.heap.size w (w.alloc o)) := fun _ => (Below.refl _ _).alloc (Nat.le_refl _) _
  obtain ⟨b, hb⟩ : ∃ b, decide (RightP ⟨1, d, s, im⟩) = b := ⟨_, rfl⟩
  have HD : Hid (decide (RightP ⟨1, d, s, im⟩) = b) := hb
  rw [hb]
  clear hb
  have d0 : decide (d < 0) = false := decide_eq_false (by omega)
  have d7 : decide (7 < d) = false := decide_eq_false (by omega)
  have s0 : decide (s < 0) = false := decide_eq_false (by omega)
  have s7 : decide (7 < s) = false := decide_eq_false (by omega)
  have i0 : decide (im < -2147483648) = false := decide_eq_false (by omega)
  have i7 : decide (2147483647 < im) = false := decide_eq_false (by omega)
  have q0 : ((((⟨#[49, 49, 49, 49, 49, 49, 49, 49, 49, 49, 49, 49, 48, 49, 49, 49, 49, 48, 48, 48, 48, 49]⟩ : ByteArray)[1]'(by decide)).toNat : Int) == 48) = false := by decide
  have q1 : ((((⟨#[48, 49, 49, 49, 48, 48, 48, 49, 49, 49, 49, 49, 48, 49, 49, 49, 49, 48, 48, 48, 48, 49]⟩ : ByteArray)[1]'(by decide)).toNat : Int) == 48) = false := by decide
  have q2 : ((((⟨#[49, 48, 48, 48, 49, 49, 49, 49, 49, 49, 49, 49, 49, 49, 49, 49, 49, 49, 48, 49, 48, 48]⟩ : ByteArray)[1]'(by decide)).toNat : Int) == 48) = true := by decide
  go_enter Tryd.func7, Tryd.ntmps7
  go_wp2
  all_goals go_ret
  all_goals refine ⟨?_, HB.out _⟩
  all_goals refine congrArg _ ?_
  all_goals show Value.bool _ = Value.bool b
  all_goals refine congrArg Value.bool ?_
  all_goals rw [← HD.out]
  all_goals (rw [Bool.eq_iff_iff, decide_eq_true_iff]; unfold RightP lackF immF; simp at *)
  all_goals omega

theorem refr_2 (d s im : Int) (w : World) (hd : 0 ≤ d ∧ d ≤ 7) (hs : 0 ≤ s ∧ s ≤ 7) (hi : -2147483648 ≤ im ∧ im ≤ 2147483647) :
    Calls Tryd.prog 7 #[.agg #[.int .i64 2, .int .i64 d, .int .i64 s, .int .i64 im]] w fun r w' => r = .returned (.bool (decide (RightP ⟨2, d, s, im⟩))) ∧ Below w.heap.size w w' := by
  have HB : Hid (∀ o, Below w.heap.size w (w.alloc o)) := fun _ => (Below.refl _ _).alloc (Nat.le_refl _) _
  obtain ⟨b, hb⟩ : ∃ b, decide (RightP ⟨2, d, s, im⟩) = b := ⟨_, rfl⟩
  have HD : Hid (decide (RightP ⟨2, d, s, im⟩) = b) := hb
  rw [hb]
  clear hb
  have d0 : decide (d < 0) = false := decide_eq_false (by omega)
  have d7 : decide (7 < d) = false := decide_eq_false (by omega)
  have s0 : decide (s < 0) = false := decide_eq_false (by omega)
  have s7 : decide (7 < s) = false := decide_eq_false (by omega)
  have i0 : decide (im < -2147483648) = false := decide_eq_false (by omega)
  have i7 : decide (2147483647 < im) = false := decide_eq_false (by omega)
  have q0 : ((((⟨#[49, 49, 49, 49, 49, 49, 49, 49, 49, 49, 49, 49, 48, 49, 49, 49, 49, 48, 48, 48, 48, 49]⟩ : ByteArray)[2]'(by decide)).toNat : Int) == 48) = false := by decide
  have q1 : ((((⟨#[48, 49, 49, 49, 48, 48, 48, 49, 49, 49, 49, 49, 48, 49, 49, 49, 49, 48, 48, 48, 48, 49]⟩ : ByteArray)[2]'(by decide)).toNat : Int) == 48) = false := by decide
  have q2 : ((((⟨#[49, 48, 48, 48, 49, 49, 49, 49, 49, 49, 49, 49, 49, 49, 49, 49, 49, 49, 48, 49, 48, 48]⟩ : ByteArray)[2]'(by decide)).toNat : Int) == 48) = true := by decide
  go_enter Tryd.func7, Tryd.ntmps7
  go_wp2
  all_goals go_ret
  all_goals refine ⟨?_, HB.out _⟩
  all_goals refine congrArg _ ?_
  all_goals show Value.bool _ = Value.bool b
  all_goals refine congrArg Value.bool ?_
  all_goals rw [← HD.out]
  all_goals (rw [Bool.eq_iff_iff, decide_eq_true_iff]; unfold RightP lackF immF; simp at *)
  all_goals omega

theorem refr_3 (d s im : Int) (w : World) (hd : 0 ≤ d ∧ d ≤ 7) (hs : 0 ≤ s ∧ s ≤ 7) (hi : -2147483648 ≤ im ∧ im ≤ 2147483647) :
    Calls Tryd.prog 7 #[.agg #[.int .i64 3, .int .i64 d, .int .i64 s, .int .i64 im]] w fun r w' => r = .returned (.bool (decide (RightP ⟨3, d, s, im⟩))) ∧ Below w.heap.size w w' := by
  have HB : Hid (∀ o, Below w.heap.size w (w.alloc o)) := fun _ => (Below.refl _ _).alloc (Nat.le_refl _) _
  obtain ⟨b, hb⟩ : ∃ b, decide (RightP ⟨3, d, s, im⟩) = b := ⟨_, rfl⟩
  have HD : Hid (decide (RightP ⟨3, d, s, im⟩) = b) := hb
  rw [hb]
  clear hb
  have d0 : decide (d < 0) = false := decide_eq_false (by omega)
  have d7 : decide (7 < d) = false := decide_eq_false (by omega)
  have s0 : decide (s < 0) = false := decide_eq_false (by omega)
  have s7 : decide (7 < s) = false := decide_eq_false (by omega)
  have i0 : decide (im < -2147483648) = false := decide_eq_false (by omega)
  have i7 : decide (2147483647 < im) = false := decide_eq_false (by omega)
  have q0 : ((((⟨#[49, 49, 49, 49, 49, 49, 49, 49, 49, 49, 49, 49, 48, 49, 49, 49, 49, 48, 48, 48, 48, 49]⟩ : ByteArray)[3]'(by decide)).toNat : Int) == 48) = false := by decide
  have q1 : ((((⟨#[48, 49, 49, 49, 48, 48, 48, 49, 49, 49, 49, 49, 48, 49, 49, 49, 49, 48, 48, 48, 48, 49]⟩ : ByteArray)[3]'(by decide)).toNat : Int) == 48) = false := by decide
  have q2 : ((((⟨#[49, 48, 48, 48, 49, 49, 49, 49, 49, 49, 49, 49, 49, 49, 49, 49, 49, 49, 48, 49, 48, 48]⟩ : ByteArray)[3]'(by decide)).toNat : Int) == 48) = true := by decide
  go_enter Tryd.func7, Tryd.ntmps7
  go_wp2
  all_goals go_ret
  all_goals refine ⟨?_, HB.out _⟩
  all_goals refine congrArg _ ?_
  all_goals show Value.bool _ = Value.bool b
  all_goals refine congrArg Value.bool ?_
  all_goals rw [← HD.out]
  all_goals (rw [Bool.eq_iff_iff, decide_eq_true_iff]; unfold RightP lackF immF; simp at *)
  all_goals omega

theorem refr_4 (d s im : Int) (w : World) (hd : 0 ≤ d ∧ d ≤ 7) (hs : 0 ≤ s ∧ s ≤ 7) (hi : -2147483648 ≤ im ∧ im ≤ 2147483647) :
    Calls Tryd.prog 7 #[.agg #[.int .i64 4, .int .i64 d, .int .i64 s, .int .i64 im]] w fun r w' => r = .returned (.bool (decide (RightP ⟨4, d, s, im⟩))) ∧ Below w.heap.size w w' := by
  have HB : Hid (∀ o, Below w.heap.size w (w.alloc o)) := fun _ => (Below.refl _ _).alloc (Nat.le_refl _) _
  obtain ⟨b, hb⟩ : ∃ b, decide (RightP ⟨4, d, s, im⟩) = b := ⟨_, rfl⟩
  have HD : Hid (decide (RightP ⟨4, d, s, im⟩) = b) := hb
  rw [hb]
  clear hb
  have d0 : decide (d < 0) = false := decide_eq_false (by omega)
  have d7 : decide (7 < d) = false := decide_eq_false (by omega)
  have s0 : decide (s < 0) = false := decide_eq_false (by omega)
  have s7 : decide (7 < s) = false := decide_eq_false (by omega)
  have i0 : decide (im < -2147483648) = false := decide_eq_false (by omega)
  have i7 : decide (2147483647 < im) = false := decide_eq_false (by omega)
  have q0 : ((((⟨#[49, 49, 49, 49, 49, 49, 49, 49, 49, 49, 49, 49, 48, 49, 49, 49, 49, 48, 48, 48, 48, 49]⟩ : ByteArray)[4]'(by decide)).toNat : Int) == 48) = false := by decide
  have q1 : ((((⟨#[48, 49, 49, 49, 48, 48, 48, 49, 49, 49, 49, 49, 48, 49, 49, 49, 49, 48, 48, 48, 48, 49]⟩ : ByteArray)[4]'(by decide)).toNat : Int) == 48) = true := by decide
  have q2 : ((((⟨#[49, 48, 48, 48, 49, 49, 49, 49, 49, 49, 49, 49, 49, 49, 49, 49, 49, 49, 48, 49, 48, 48]⟩ : ByteArray)[4]'(by decide)).toNat : Int) == 48) = false := by decide
  go_enter Tryd.func7, Tryd.ntmps7
  go_wp2
  all_goals go_ret
  all_goals refine ⟨?_, HB.out _⟩
  all_goals refine congrArg _ ?_
  all_goals show Value.bool _ = Value.bool b
  all_goals refine congrArg Value.bool ?_
  all_goals rw [← HD.out]
  all_goals (rw [Bool.eq_iff_iff, decide_eq_true_iff]; unfold RightP lackF immF; simp at *)
  all_goals omega

theorem refr_5 (d s im : Int) (w : World) (hd : 0 ≤ d ∧ d ≤ 7) (hs : 0 ≤ s ∧ s ≤ 7) (hi : -2147483648 ≤ im ∧ im ≤ 2147483647) :
    Calls Tryd.prog 7 #[.agg #[.int .i64 5, .int .i64 d, .int .i64 s, .int .i64 im]] w fun r w' => r = .returned (.bool (decide (RightP ⟨5, d, s, im⟩))) ∧ Below w.heap.size w w' := by
  have HB : Hid (∀ o, Below w.heap.size w (w.alloc o)) := fun _ => (Below.refl _ _).alloc (Nat.le_refl _) _
  obtain ⟨b, hb⟩ : ∃ b, decide (RightP ⟨5, d, s, im⟩) = b := ⟨_, rfl⟩
  have HD : Hid (decide (RightP ⟨5, d, s, im⟩) = b) := hb
  rw [hb]
  clear hb
  have d0 : decide (d < 0) = false := decide_eq_false (by omega)
  have d7 : decide (7 < d) = false := decide_eq_false (by omega)
  have s0 : decide (s < 0) = false := decide_eq_false (by omega)
  have s7 : decide (7 < s) = false := decide_eq_false (by omega)
  have i0 : decide (im < -2147483648) = false := decide_eq_false (by omega)
  have i7 : decide (2147483647 < im) = false := decide_eq_false (by omega)
  have q0 : ((((⟨#[49, 49, 49, 49, 49, 49, 49, 49, 49, 49, 49, 49, 48, 49, 49, 49, 49, 48, 48, 48, 48, 49]⟩ : ByteArray)[5]'(by decide)).toNat : Int) == 48) = false := by decide
  have q1 : ((((⟨#[48, 49, 49, 49, 48, 48, 48, 49, 49, 49, 49, 49, 48, 49, 49, 49, 49, 48, 48, 48, 48, 49]⟩ : ByteArray)[5]'(by decide)).toNat : Int) == 48) = true := by decide
  have q2 : ((((⟨#[49, 48, 48, 48, 49, 49, 49, 49, 49, 49, 49, 49, 49, 49, 49, 49, 49, 49, 48, 49, 48, 48]⟩ : ByteArray)[5]'(by decide)).toNat : Int) == 48) = false := by decide
  go_enter Tryd.func7, Tryd.ntmps7
  go_wp2
  all_goals go_ret
  all_goals refine ⟨?_, HB.out _⟩
  all_goals refine congrArg _ ?_
  all_goals show Value.bool _ = Value.bool b
  all_goals refine congrArg Value.bool ?_
  all_goals rw [← HD.out]
  all_goals (rw [Bool.eq_iff_iff, decide_eq_true_iff]; unfold RightP lackF immF; simp at *)
  all_goals omega

theorem refr_6 (d s im : Int) (w : World) (hd : 0 ≤ d ∧ d ≤ 7) (hs : 0 ≤ s ∧ s ≤ 7) (hi : -2147483648 ≤ im ∧ im ≤ 2147483647) :
    Calls Tryd.prog 7 #[.agg #[.int .i64 6, .int .i64 d, .int .i64 s, .int .i64 im]] w fun r w' => r = .returned (.bool (decide (RightP ⟨6, d, s, im⟩))) ∧ Below w.heap.size w w' := by
  have HB : Hid (∀ o, Below w.heap.size w (w.alloc o)) := fun _ => (Below.refl _ _).alloc (Nat.le_refl _) _
  obtain ⟨b, hb⟩ : ∃ b, decide (RightP ⟨6, d, s, im⟩) = b := ⟨_, rfl⟩
  have HD : Hid (decide (RightP ⟨6, d, s, im⟩) = b) := hb
  rw [hb]
  clear hb
  have d0 : decide (d < 0) = false := decide_eq_false (by omega)
  have d7 : decide (7 < d) = false := decide_eq_false (by omega)
  have s0 : decide (s < 0) = false := decide_eq_false (by omega)
  have s7 : decide (7 < s) = false := decide_eq_false (by omega)
  have i0 : decide (im < -2147483648) = false := decide_eq_false (by omega)
  have i7 : decide (2147483647 < im) = false := decide_eq_false (by omega)
  have q0 : ((((⟨#[49, 49, 49, 49, 49, 49, 49, 49, 49, 49, 49, 49, 48, 49, 49, 49, 49, 48, 48, 48, 48, 49]⟩ : ByteArray)[6]'(by decide)).toNat : Int) == 48) = false := by decide
  have q1 : ((((⟨#[48, 49, 49, 49, 48, 48, 48, 49, 49, 49, 49, 49, 48, 49, 49, 49, 49, 48, 48, 48, 48, 49]⟩ : ByteArray)[6]'(by decide)).toNat : Int) == 48) = true := by decide
  have q2 : ((((⟨#[49, 48, 48, 48, 49, 49, 49, 49, 49, 49, 49, 49, 49, 49, 49, 49, 49, 49, 48, 49, 48, 48]⟩ : ByteArray)[6]'(by decide)).toNat : Int) == 48) = false := by decide
  go_enter Tryd.func7, Tryd.ntmps7
  go_wp2
  all_goals go_ret
  all_goals refine ⟨?_, HB.out _⟩
  all_goals refine congrArg _ ?_
  all_goals show Value.bool _ = Value.bool b
  all_goals refine congrArg Value.bool ?_
  all_goals rw [← HD.out]
  all_goals (rw [Bool.eq_iff_iff, decide_eq_true_iff]; unfold RightP lackF immF; simp at *)
  all_goals omega

theorem refr_7 (d s im : Int) (w : World) (hd : 0 ≤ d ∧ d ≤ 7) (hs : 0 ≤ s ∧ s ≤ 7) (hi : -2147483648 ≤ im ∧ im ≤ 2147483647) :
    Calls Tryd.prog 7 #[.agg #[.int .i64 7, .int .i64 d, .int .i64 s, .int .i64 im]] w fun r w' => r = .returned (.bool (decide (RightP ⟨7, d, s, im⟩))) ∧ Below w.heap.size w w' := by
  have HB : Hid (∀ o, Below w.heap.size w (w.alloc o)) := fun _ => (Below.refl _ _).alloc (Nat.le_refl _) _
  obtain ⟨b, hb⟩ : ∃ b, decide (RightP ⟨7, d, s, im⟩) = b := ⟨_, rfl⟩
  have HD : Hid (decide (RightP ⟨7, d, s, im⟩) = b) := hb
  rw [hb]
  clear hb
  have d0 : decide (d < 0) = false := decide_eq_false (by omega)
  have d7 : decide (7 < d) = false := decide_eq_false (by omega)
  have s0 : decide (s < 0) = false := decide_eq_false (by omega)
  have s7 : decide (7 < s) = false := decide_eq_false (by omega)
  have i0 : decide (im < -2147483648) = false := decide_eq_false (by omega)
  have i7 : decide (2147483647 < im) = false := decide_eq_false (by omega)
  have q0 : ((((⟨#[49, 49, 49, 49, 49, 49, 49, 49, 49, 49, 49, 49, 48, 49, 49, 49, 49, 48, 48, 48, 48, 49]⟩ : ByteArray)[7]'(by decide)).toNat : Int) == 48) = false := by decide
  have q1 : ((((⟨#[48, 49, 49, 49, 48, 48, 48, 49, 49, 49, 49, 49, 48, 49, 49, 49, 49, 48, 48, 48, 48, 49]⟩ : ByteArray)[7]'(by decide)).toNat : Int) == 48) = false := by decide
  have q2 : ((((⟨#[49, 48, 48, 48, 49, 49, 49, 49, 49, 49, 49, 49, 49, 49, 49, 49, 49, 49, 48, 49, 48, 48]⟩ : ByteArray)[7]'(by decide)).toNat : Int) == 48) = false := by decide
  go_enter Tryd.func7, Tryd.ntmps7
  go_wp2
  all_goals go_ret
  all_goals refine ⟨?_, HB.out _⟩
  all_goals refine congrArg _ ?_
  all_goals show Value.bool _ = Value.bool b
  all_goals refine congrArg Value.bool ?_
  all_goals rw [← HD.out]
  all_goals (rw [Bool.eq_iff_iff, decide_eq_true_iff]; unfold RightP lackF immF; simp at *)
  all_goals omega

theorem refr_8 (d s im : Int) (w : World) (hd : 0 ≤ d ∧ d ≤ 7) (hs : 0 ≤ s ∧ s ≤ 7) (hi : -2147483648 ≤ im ∧ im ≤ 2147483647) :
    Calls Tryd.prog 7 #[.agg #[.int .i64 8, .int .i64 d, .int .i64 s, .int .i64 im]] w fun r w' => r = .returned (.bool (decide (RightP ⟨8, d, s, im⟩))) ∧ Below w.heap.size w w' := by
  have HB : Hid (∀ o, Below w.heap.size w (w.alloc o)) := fun _ => (Below.refl _ _).alloc (Nat.le_refl _) _
  obtain ⟨b, hb⟩ : ∃ b, decide (RightP ⟨8, d, s, im⟩) = b := ⟨_, rfl⟩
  have HD : Hid (decide (RightP ⟨8, d, s, im⟩) = b) := hb
  rw [hb]
  clear hb
  have d0 : decide (d < 0) = false := decide_eq_false (by omega)
  have d7 : decide (7 < d) = false := decide_eq_false (by omega)
  have s0 : decide (s < 0) = false := decide_eq_false (by omega)
  have s7 : decide (7 < s) = false := decide_eq_false (by omega)
  have i0 : decide (im < -2147483648) = false := decide_eq_false (by omega)
  have i7 : decide (2147483647 < im) = false := decide_eq_false (by omega)
  have q0 : ((((⟨#[49, 49, 49, 49, 49, 49, 49, 49, 49, 49, 49, 49, 48, 49, 49, 49, 49, 48, 48, 48, 48, 49]⟩ : ByteArray)[8]'(by decide)).toNat : Int) == 48) = false := by decide
  have q1 : ((((⟨#[48, 49, 49, 49, 48, 48, 48, 49, 49, 49, 49, 49, 48, 49, 49, 49, 49, 48, 48, 48, 48, 49]⟩ : ByteArray)[8]'(by decide)).toNat : Int) == 48) = false := by decide
  have q2 : ((((⟨#[49, 48, 48, 48, 49, 49, 49, 49, 49, 49, 49, 49, 49, 49, 49, 49, 49, 49, 48, 49, 48, 48]⟩ : ByteArray)[8]'(by decide)).toNat : Int) == 48) = false := by decide
  go_enter Tryd.func7, Tryd.ntmps7
  go_wp2
  all_goals go_ret
  all_goals refine ⟨?_, HB.out _⟩
  all_goals refine congrArg _ ?_
  all_goals show Value.bool _ = Value.bool b
  all_goals refine congrArg Value.bool ?_
  all_goals rw [← HD.out]
  all_goals (rw [Bool.eq_iff_iff, decide_eq_true_iff]; unfold RightP lackF immF; simp at *)
  all_goals omega

theorem refr_9 (d s im : Int) (w : World) (hd : 0 ≤ d ∧ d ≤ 7) (hs : 0 ≤ s ∧ s ≤ 7) (hi : -2147483648 ≤ im ∧ im ≤ 2147483647) :
    Calls Tryd.prog 7 #[.agg #[.int .i64 9, .int .i64 d, .int .i64 s, .int .i64 im]] w fun r w' => r = .returned (.bool (decide (RightP ⟨9, d, s, im⟩))) ∧ Below w.heap.size w w' := by
  have HB : Hid (∀ o, Below w.heap.size w (w.alloc o)) := fun _ => (Below.refl _ _).alloc (Nat.le_refl _) _
  obtain ⟨b, hb⟩ : ∃ b, decide (RightP ⟨9, d, s, im⟩) = b := ⟨_, rfl⟩
  have HD : Hid (decide (RightP ⟨9, d, s, im⟩) = b) := hb
  rw [hb]
  clear hb
  have d0 : decide (d < 0) = false := decide_eq_false (by omega)
  have d7 : decide (7 < d) = false := decide_eq_false (by omega)
  have s0 : decide (s < 0) = false := decide_eq_false (by omega)
  have s7 : decide (7 < s) = false := decide_eq_false (by omega)
  have i0 : decide (im < -2147483648) = false := decide_eq_false (by omega)
  have i7 : decide (2147483647 < im) = false := decide_eq_false (by omega)
  have q0 : ((((⟨#[49, 49, 49, 49, 49, 49, 49, 49, 49, 49, 49, 49, 48, 49, 49, 49, 49, 48, 48, 48, 48, 49]⟩ : ByteArray)[9]'(by decide)).toNat : Int) == 48) = false := by decide
  have q1 : ((((⟨#[48, 49, 49, 49, 48, 48, 48, 49, 49, 49, 49, 49, 48, 49, 49, 49, 49, 48, 48, 48, 48, 49]⟩ : ByteArray)[9]'(by decide)).toNat : Int) == 48) = false := by decide
  have q2 : ((((⟨#[49, 48, 48, 48, 49, 49, 49, 49, 49, 49, 49, 49, 49, 49, 49, 49, 49, 49, 48, 49, 48, 48]⟩ : ByteArray)[9]'(by decide)).toNat : Int) == 48) = false := by decide
  go_enter Tryd.func7, Tryd.ntmps7
  go_wp2
  all_goals go_ret
  all_goals refine ⟨?_, HB.out _⟩
  all_goals refine congrArg _ ?_
  all_goals show Value.bool _ = Value.bool b
  all_goals refine congrArg Value.bool ?_
  all_goals rw [← HD.out]
  all_goals (rw [Bool.eq_iff_iff, decide_eq_true_iff]; unfold RightP lackF immF; simp at *)
  all_goals omega

theorem refr_10 (d s im : Int) (w : World) (hd : 0 ≤ d ∧ d ≤ 7) (hs : 0 ≤ s ∧ s ≤ 7) (hi : -2147483648 ≤ im ∧ im ≤ 2147483647) :
    Calls Tryd.prog 7 #[.agg #[.int .i64 10, .int .i64 d, .int .i64 s, .int .i64 im]] w fun r w' => r = .returned (.bool (decide (RightP ⟨10, d, s, im⟩))) ∧ Below w.heap.size w w' := by
  have HB : Hid (∀ o, Below w.heap.size w (w.alloc o)) := fun _ => (Below.refl _ _).alloc (Nat.le_refl _) _
  obtain ⟨b, hb⟩ : ∃ b, decide (RightP ⟨10, d, s, im⟩) = b := ⟨_, rfl⟩
  have HD : Hid (decide (RightP ⟨10, d, s, im⟩) = b) := hb
  rw [hb]
  clear hb
  have d0 : decide (d < 0) = false := decide_eq_false (by omega)
  have d7 : decide (7 < d) = false := decide_eq_false (by omega)
  have s0 : decide (s < 0) = false := decide_eq_false (by omega)
  have s7 : decide (7 < s) = false := decide_eq_false (by omega)
  have i0 : decide (im < -2147483648) = false := decide_eq_false (by omega)
  have i7 : decide (2147483647 < im) = false := decide_eq_false (by omega)
  have q0 : ((((⟨#[49, 49, 49, 49, 49, 49, 49, 49, 49, 49, 49, 49, 48, 49, 49, 49, 49, 48, 48, 48, 48, 49]⟩ : ByteArray)[10]'(by decide)).toNat : Int) == 48) = false := by decide
  have q1 : ((((⟨#[48, 49, 49, 49, 48, 48, 48, 49, 49, 49, 49, 49, 48, 49, 49, 49, 49, 48, 48, 48, 48, 49]⟩ : ByteArray)[10]'(by decide)).toNat : Int) == 48) = false := by decide
  have q2 : ((((⟨#[49, 48, 48, 48, 49, 49, 49, 49, 49, 49, 49, 49, 49, 49, 49, 49, 49, 49, 48, 49, 48, 48]⟩ : ByteArray)[10]'(by decide)).toNat : Int) == 48) = false := by decide
  go_enter Tryd.func7, Tryd.ntmps7
  go_wp2
  all_goals go_ret
  all_goals refine ⟨?_, HB.out _⟩
  all_goals refine congrArg _ ?_
  all_goals show Value.bool _ = Value.bool b
  all_goals refine congrArg Value.bool ?_
  all_goals rw [← HD.out]
  all_goals (rw [Bool.eq_iff_iff, decide_eq_true_iff]; unfold RightP lackF immF; simp at *)
  all_goals omega

theorem refr_11 (d s im : Int) (w : World) (hd : 0 ≤ d ∧ d ≤ 7) (hs : 0 ≤ s ∧ s ≤ 7) (hi : -2147483648 ≤ im ∧ im ≤ 2147483647) :
    Calls Tryd.prog 7 #[.agg #[.int .i64 11, .int .i64 d, .int .i64 s, .int .i64 im]] w fun r w' => r = .returned (.bool (decide (RightP ⟨11, d, s, im⟩))) ∧ Below w.heap.size w w' := by
  have HB : Hid (∀ o, Below w.heap.size w (w.alloc o)) := fun _ => (Below.refl _ _).alloc (Nat.le_refl _) _
  obtain ⟨b, hb⟩ : ∃ b, decide (RightP ⟨11, d, s, im⟩) = b := ⟨_, rfl⟩
  have HD : Hid (decide (RightP ⟨11, d, s, im⟩) = b) := hb
  rw [hb]
  clear hb
  have d0 : decide (d < 0) = false := decide_eq_false (by omega)
  have d7 : decide (7 < d) = false := decide_eq_false (by omega)
  have s0 : decide (s < 0) = false := decide_eq_false (by omega)
  have s7 : decide (7 < s) = false := decide_eq_false (by omega)
  have i0 : decide (im < -2147483648) = false := decide_eq_false (by omega)
  have i7 : decide (2147483647 < im) = false := decide_eq_false (by omega)
  have q0 : ((((⟨#[49, 49, 49, 49, 49, 49, 49, 49, 49, 49, 49, 49, 48, 49, 49, 49, 49, 48, 48, 48, 48, 49]⟩ : ByteArray)[11]'(by decide)).toNat : Int) == 48) = false := by decide
  have q1 : ((((⟨#[48, 49, 49, 49, 48, 48, 48, 49, 49, 49, 49, 49, 48, 49, 49, 49, 49, 48, 48, 48, 48, 49]⟩ : ByteArray)[11]'(by decide)).toNat : Int) == 48) = false := by decide
  have q2 : ((((⟨#[49, 48, 48, 48, 49, 49, 49, 49, 49, 49, 49, 49, 49, 49, 49, 49, 49, 49, 48, 49, 48, 48]⟩ : ByteArray)[11]'(by decide)).toNat : Int) == 48) = false := by decide
  go_enter Tryd.func7, Tryd.ntmps7
  go_wp2
  all_goals go_ret
  all_goals refine ⟨?_, HB.out _⟩
  all_goals refine congrArg _ ?_
  all_goals show Value.bool _ = Value.bool b
  all_goals refine congrArg Value.bool ?_
  all_goals rw [← HD.out]
  all_goals (rw [Bool.eq_iff_iff, decide_eq_true_iff]; unfold RightP lackF immF; simp at *)
  all_goals omega

theorem refr_12 (d s im : Int) (w : World) (hd : 0 ≤ d ∧ d ≤ 7) (hs : 0 ≤ s ∧ s ≤ 7) (hi : -2147483648 ≤ im ∧ im ≤ 2147483647) :
    Calls Tryd.prog 7 #[.agg #[.int .i64 12, .int .i64 d, .int .i64 s, .int .i64 im]] w fun r w' => r = .returned (.bool (decide (RightP ⟨12, d, s, im⟩))) ∧ Below w.heap.size w w' := by
  have HB : Hid (∀ o, Below w.heap.size w (w.alloc o)) := fun _ => (Below.refl _ _).alloc (Nat.le_refl _) _
  obtain ⟨b, hb⟩ : ∃ b, decide (RightP ⟨12, d, s, im⟩) = b := ⟨_, rfl⟩
  have HD : Hid (decide (RightP ⟨12, d, s, im⟩) = b) := hb
  rw [hb]
  clear hb
  have d0 : decide (d < 0) = false := decide_eq_false (by omega)
  have d7 : decide (7 < d) = false := decide_eq_false (by omega)
  have s0 : decide (s < 0) = false := decide_eq_false (by omega)
  have s7 : decide (7 < s) = false := decide_eq_false (by omega)
  have i0 : decide (im < -2147483648) = false := decide_eq_false (by omega)
  have i7 : decide (2147483647 < im) = false := decide_eq_false (by omega)
  have q0 : ((((⟨#[49, 49, 49, 49, 49, 49, 49, 49, 49, 49, 49, 49, 48, 49, 49, 49, 49, 48, 48, 48, 48, 49]⟩ : ByteArray)[12]'(by decide)).toNat : Int) == 48) = true := by decide
  have q1 : ((((⟨#[48, 49, 49, 49, 48, 48, 48, 49, 49, 49, 49, 49, 48, 49, 49, 49, 49, 48, 48, 48, 48, 49]⟩ : ByteArray)[12]'(by decide)).toNat : Int) == 48) = true := by decide
  have q2 : ((((⟨#[49, 48, 48, 48, 49, 49, 49, 49, 49, 49, 49, 49, 49, 49, 49, 49, 49, 49, 48, 49, 48, 48]⟩ : ByteArray)[12]'(by decide)).toNat : Int) == 48) = false := by decide
  go_enter Tryd.func7, Tryd.ntmps7
  go_wp2
  all_goals go_ret
  all_goals refine ⟨?_, HB.out _⟩
  all_goals refine congrArg _ ?_
  all_goals show Value.bool _ = Value.bool b
  all_goals refine congrArg Value.bool ?_
  all_goals rw [← HD.out]
  all_goals (rw [Bool.eq_iff_iff, decide_eq_true_iff]; unfold RightP lackF immF; simp at *)
  all_goals omega

theorem refr_13 (d s im : Int) (w : World) (hd : 0 ≤ d ∧ d ≤ 7) (hs : 0 ≤ s ∧ s ≤ 7) (hi : -2147483648 ≤ im ∧ im ≤ 2147483647) :
    Calls Tryd.prog 7 #[.agg #[.int .i64 13, .int .i64 d, .int .i64 s, .int .i64 im]] w fun r w' => r = .returned (.bool (decide (RightP ⟨13, d, s, im⟩))) ∧ Below w.heap.size w w' := by
  have HB : Hid (∀ o, Below w.heap.size w (w.alloc o)) := fun _ => (Below.refl _ _).alloc (Nat.le_refl _) _
  obtain ⟨b, hb⟩ : ∃ b, decide (RightP ⟨13, d, s, im⟩) = b := ⟨_, rfl⟩
  have HD : Hid (decide (RightP ⟨13, d, s, im⟩) = b) := hb
  rw [hb]
  clear hb
  have d0 : decide (d < 0) = false := decide_eq_false (by omega)
  have d7 : decide (7 < d) = false := decide_eq_false (by omega)
  have s0 : decide (s < 0) = false := decide_eq_false (by omega)
  have s7 : decide (7 < s) = false := decide_eq_false (by omega)
  have i0 : decide (im < -2147483648) = false := decide_eq_false (by omega)
  have i7 : decide (2147483647 < im) = false := decide_eq_false (by omega)
  have q0 : ((((⟨#[49, 49, 49, 49, 49, 49, 49, 49, 49, 49, 49, 49, 48, 49, 49, 49, 49, 48, 48, 48, 48, 49]⟩ : ByteArray)[13]'(by decide)).toNat : Int) == 48) = false := by decide
  have q1 : ((((⟨#[48, 49, 49, 49, 48, 48, 48, 49, 49, 49, 49, 49, 48, 49, 49, 49, 49, 48, 48, 48, 48, 49]⟩ : ByteArray)[13]'(by decide)).toNat : Int) == 48) = false := by decide
  have q2 : ((((⟨#[49, 48, 48, 48, 49, 49, 49, 49, 49, 49, 49, 49, 49, 49, 49, 49, 49, 49, 48, 49, 48, 48]⟩ : ByteArray)[13]'(by decide)).toNat : Int) == 48) = false := by decide
  go_enter Tryd.func7, Tryd.ntmps7
  go_wp2
  all_goals go_ret
  all_goals refine ⟨?_, HB.out _⟩
  all_goals refine congrArg _ ?_
  all_goals show Value.bool _ = Value.bool b
  all_goals refine congrArg Value.bool ?_
  all_goals rw [← HD.out]
  all_goals (rw [Bool.eq_iff_iff, decide_eq_true_iff]; unfold RightP lackF immF; simp at *)
  all_goals omega

theorem refr_14 (d s im : Int) (w : World) (hd : 0 ≤ d ∧ d ≤ 7) (hs : 0 ≤ s ∧ s ≤ 7) (hi : -2147483648 ≤ im ∧ im ≤ 2147483647) :
    Calls Tryd.prog 7 #[.agg #[.int .i64 14, .int .i64 d, .int .i64 s, .int .i64 im]] w fun r w' => r = .returned (.bool (decide (RightP ⟨14, d, s, im⟩))) ∧ Below w.heap.size w w' := by
  have HB : Hid (∀ o, Below w.heap.size w (w.alloc o)) := fun _ => (Below.refl _ _).alloc (Nat.le_refl _) _
  obtain ⟨b, hb⟩ : ∃ b, decide (RightP ⟨14, d, s, im⟩) = b := ⟨_, rfl⟩
  have HD : Hid (decide (RightP ⟨14, d, s, im⟩) = b) := hb
  rw [hb]
  clear hb
  have d0 : decide (d < 0) = false := decide_eq_false (by omega)
  have d7 : decide (7 < d) = false := decide_eq_false (by omega)
  have s0 : decide (s < 0) = false := decide_eq_false (by omega)
  have s7 : decide (7 < s) = false := decide_eq_false (by omega)
  have i0 : decide (im < -2147483648) = false := decide_eq_false (by omega)
  have i7 : decide (2147483647 < im) = false := decide_eq_false (by omega)
  have q0 : ((((⟨#[49, 49, 49, 49, 49, 49, 49, 49, 49, 49, 49, 49, 48, 49, 49, 49, 49, 48, 48, 48, 48, 49]⟩ : ByteArray)[14]'(by decide)).toNat : Int) == 48) = false := by decide
  have q1 : ((((⟨#[48, 49, 49, 49, 48, 48, 48, 49, 49, 49, 49, 49, 48, 49, 49, 49, 49, 48, 48, 48, 48, 49]⟩ : ByteArray)[14]'(by decide)).toNat : Int) == 48) = false := by decide
  have q2 : ((((⟨#[49, 48, 48, 48, 49, 49, 49, 49, 49, 49, 49, 49, 49, 49, 49, 49, 49, 49, 48, 49, 48, 48]⟩ : ByteArray)[14]'(by decide)).toNat : Int) == 48) = false := by decide
  go_enter Tryd.func7, Tryd.ntmps7
  go_wp2
  all_goals go_ret
  all_goals refine ⟨?_, HB.out _⟩
  all_goals refine congrArg _ ?_
  all_goals show Value.bool _ = Value.bool b
  all_goals refine congrArg Value.bool ?_
  all_goals rw [← HD.out]
  all_goals (rw [Bool.eq_iff_iff, decide_eq_true_iff]; unfold RightP lackF immF; simp at *)
  all_goals omega

theorem refr_15 (d s im : Int) (w : World) (hd : 0 ≤ d ∧ d ≤ 7) (hs : 0 ≤ s ∧ s ≤ 7) (hi : -2147483648 ≤ im ∧ im ≤ 2147483647) :
    Calls Tryd.prog 7 #[.agg #[.int .i64 15, .int .i64 d, .int .i64 s, .int .i64 im]] w fun r w' => r = .returned (.bool (decide (RightP ⟨15, d, s, im⟩))) ∧ Below w.heap.size w w' := by
  have HB : Hid (∀ o, Below w.heap.size w (w.alloc o)) := fun _ => (Below.refl _ _).alloc (Nat.le_refl _) _
  obtain ⟨b, hb⟩ : ∃ b, decide (RightP ⟨15, d, s, im⟩) = b := ⟨_, rfl⟩
  have HD : Hid (decide (RightP ⟨15, d, s, im⟩) = b) := hb
  rw [hb]
  clear hb
  have d0 : decide (d < 0) = false := decide_eq_false (by omega)
  have d7 : decide (7 < d) = false := decide_eq_false (by omega)
  have s0 : decide (s < 0) = false := decide_eq_false (by omega)
  have s7 : decide (7 < s) = false := decide_eq_false (by omega)
  have i0 : decide (im < -2147483648) = false := decide_eq_false (by omega)
  have i7 : decide (2147483647 < im) = false := decide_eq_false (by omega)
  have q0 : ((((⟨#[49, 49, 49, 49, 49, 49, 49, 49, 49, 49, 49, 49, 48, 49, 49, 49, 49, 48, 48, 48, 48, 49]⟩ : ByteArray)[15]'(by decide)).toNat : Int) == 48) = false := by decide
  have q1 : ((((⟨#[48, 49, 49, 49, 48, 48, 48, 49, 49, 49, 49, 49, 48, 49, 49, 49, 49, 48, 48, 48, 48, 49]⟩ : ByteArray)[15]'(by decide)).toNat : Int) == 48) = false := by decide
  have q2 : ((((⟨#[49, 48, 48, 48, 49, 49, 49, 49, 49, 49, 49, 49, 49, 49, 49, 49, 49, 49, 48, 49, 48, 48]⟩ : ByteArray)[15]'(by decide)).toNat : Int) == 48) = false := by decide
  go_enter Tryd.func7, Tryd.ntmps7
  go_wp2
  all_goals go_ret
  all_goals refine ⟨?_, HB.out _⟩
  all_goals refine congrArg _ ?_
  all_goals show Value.bool _ = Value.bool b
  all_goals refine congrArg Value.bool ?_
  all_goals rw [← HD.out]
  all_goals (rw [Bool.eq_iff_iff, decide_eq_true_iff]; unfold RightP lackF immF; simp at *)
  all_goals omega

theorem refr_16 (d s im : Int) (w : World) (hd : 0 ≤ d ∧ d ≤ 7) (hs : 0 ≤ s ∧ s ≤ 7) (hi : -2147483648 ≤ im ∧ im ≤ 2147483647) :
    Calls Tryd.prog 7 #[.agg #[.int .i64 16, .int .i64 d, .int .i64 s, .int .i64 im]] w fun r w' => r = .returned (.bool (decide (RightP ⟨16, d, s, im⟩))) ∧ Below w.heap.size w w' := by
  have HB : Hid (∀ o, Below w.heap.size w (w.alloc o)) := fun _ => (Below.refl _ _).alloc (Nat.le_refl _) _
  obtain ⟨b, hb⟩ : ∃ b, decide (RightP ⟨16, d, s, im⟩) = b := ⟨_, rfl⟩
  have HD : Hid (decide (RightP ⟨16, d, s, im⟩) = b) := hb
  rw [hb]
  clear hb
  have d0 : decide (d < 0) = false := decide_eq_false (by omega)
  have d7 : decide (7 < d) = false := decide_eq_false (by omega)
  have s0 : decide (s < 0) = false := decide_eq_false (by omega)
  have s7 : decide (7 < s) = false := decide_eq_false (by omega)
  have i0 : decide (im < -2147483648) = false := decide_eq_false (by omega)
  have i7 : decide (2147483647 < im) = false := decide_eq_false (by omega)
  have q0 : ((((⟨#[49, 49, 49, 49, 49, 49, 49, 49, 49, 49, 49, 49, 48, 49, 49, 49, 49, 48, 48, 48, 48, 49]⟩ : ByteArray)[16]'(by decide)).toNat : Int) == 48) = false := by decide
  have q1 : ((((⟨#[48, 49, 49, 49, 48, 48, 48, 49, 49, 49, 49, 49, 48, 49, 49, 49, 49, 48, 48, 48, 48, 49]⟩ : ByteArray)[16]'(by decide)).toNat : Int) == 48) = false := by decide
  have q2 : ((((⟨#[49, 48, 48, 48, 49, 49, 49, 49, 49, 49, 49, 49, 49, 49, 49, 49, 49, 49, 48, 49, 48, 48]⟩ : ByteArray)[16]'(by decide)).toNat : Int) == 48) = false := by decide
  go_enter Tryd.func7, Tryd.ntmps7
  go_wp2
  all_goals go_ret
  all_goals refine ⟨?_, HB.out _⟩
  all_goals refine congrArg _ ?_
  all_goals show Value.bool _ = Value.bool b
  all_goals refine congrArg Value.bool ?_
  all_goals rw [← HD.out]
  all_goals (rw [Bool.eq_iff_iff, decide_eq_true_iff]; unfold RightP lackF immF; simp at *)
  all_goals omega

theorem refr_17 (d s im : Int) (w : World) (hd : 0 ≤ d ∧ d ≤ 7) (hs : 0 ≤ s ∧ s ≤ 7) (hi : -2147483648 ≤ im ∧ im ≤ 2147483647) :
    Calls Tryd.prog 7 #[.agg #[.int .i64 17, .int .i64 d, .int .i64 s, .int .i64 im]] w fun r w' => r = .returned (.bool (decide (RightP ⟨17, d, s, im⟩))) ∧ Below w.heap.size w w' := by
  have HB : Hid (∀ o, Below w.heap.size w (w.alloc o)) := fun _ => (Below.refl _ _).alloc (Nat.le_refl _) _
  obtain ⟨b, hb⟩ : ∃ b, decide (RightP ⟨17, d, s, im⟩) = b := ⟨_, rfl⟩
  have HD : Hid (decide (RightP ⟨17, d, s, im⟩) = b) := hb
  rw [hb]
  clear hb
  have d0 : decide (d < 0) = false := decide_eq_false (by omega)
  have d7 : decide (7 < d) = false := decide_eq_false (by omega)
  have s0 : decide (s < 0) = false := decide_eq_false (by omega)
  have s7 : decide (7 < s) = false := decide_eq_false (by omega)
  have i0 : decide (im < -2147483648) = false := decide_eq_false (by omega)
  have i7 : decide (2147483647 < im) = false := decide_eq_false (by omega)
  have q0 : ((((⟨#[49, 49, 49, 49, 49, 49, 49, 49, 49, 49, 49, 49, 48, 49, 49, 49, 49, 48, 48, 48, 48, 49]⟩ : ByteArray)[17]'(by decide)).toNat : Int) == 48) = true := by decide
  have q1 : ((((⟨#[48, 49, 49, 49, 48, 48, 48, 49, 49, 49, 49, 49, 48, 49, 49, 49, 49, 48, 48, 48, 48, 49]⟩ : ByteArray)[17]'(by decide)).toNat : Int) == 48) = true := by decide
  have q2 : ((((⟨#[49, 48, 48, 48, 49, 49, 49, 49, 49, 49, 49, 49, 49, 49, 49, 49, 49, 49, 48, 49, 48, 48]⟩ : ByteArray)[17]'(by decide)).toNat : Int) == 48) = false := by decide
  go_enter Tryd.func7, Tryd.ntmps7
  go_wp2
  all_goals go_ret
  all_goals refine ⟨?_, HB.out _⟩
  all_goals refine congrArg _ ?_
  all_goals show Value.bool _ = Value.bool b
  all_goals refine congrArg Value.bool ?_
  all_goals rw [← HD.out]
  all_goals (rw [Bool.eq_iff_iff, decide_eq_true_iff]; unfold RightP lackF immF; simp at *)
  all_goals omega

theorem refr_18 (d s im : Int) (w : World) (hd : 0 ≤ d ∧ d ≤ 7) (hs : 0 ≤ s ∧ s ≤ 7) (hi : -2147483648 ≤ im ∧ im ≤ 2147483647) :
    Calls Tryd.prog 7 #[.agg #[.int .i64 18, .int .i64 d, .int .i64 s, .int .i64 im]] w fun r w' => r = .returned (.bool (decide (RightP ⟨18, d, s, im⟩))) ∧ Below w.heap.size w w' := by
  have HB : Hid (∀ o, Below w.heap.size w (w.alloc o)) := fun _ => (Below.refl _ _).alloc (Nat.le_refl _) _
  obtain ⟨b, hb⟩ : ∃ b, decide (RightP ⟨18, d, s, im⟩) = b := ⟨_, rfl⟩
  have HD : Hid (decide (RightP ⟨18, d, s, im⟩) = b) := hb
  rw [hb]
  clear hb
  have d0 : decide (d < 0) = false := decide_eq_false (by omega)
  have d7 : decide (7 < d) = false := decide_eq_false (by omega)
  have s0 : decide (s < 0) = false := decide_eq_false (by omega)
  have s7 : decide (7 < s) = false := decide_eq_false (by omega)
  have i0 : decide (im < -2147483648) = false := decide_eq_false (by omega)
  have i7 : decide (2147483647 < im) = false := decide_eq_false (by omega)
  have q0 : ((((⟨#[49, 49, 49, 49, 49, 49, 49, 49, 49, 49, 49, 49, 48, 49, 49, 49, 49, 48, 48, 48, 48, 49]⟩ : ByteArray)[18]'(by decide)).toNat : Int) == 48) = true := by decide
  have q1 : ((((⟨#[48, 49, 49, 49, 48, 48, 48, 49, 49, 49, 49, 49, 48, 49, 49, 49, 49, 48, 48, 48, 48, 49]⟩ : ByteArray)[18]'(by decide)).toNat : Int) == 48) = true := by decide
  have q2 : ((((⟨#[49, 48, 48, 48, 49, 49, 49, 49, 49, 49, 49, 49, 49, 49, 49, 49, 49, 49, 48, 49, 48, 48]⟩ : ByteArray)[18]'(by decide)).toNat : Int) == 48) = true := by decide
  go_enter Tryd.func7, Tryd.ntmps7
  go_wp2
  all_goals go_ret
  all_goals refine ⟨?_, HB.out _⟩
  all_goals refine congrArg _ ?_
  all_goals show Value.bool _ = Value.bool b
  all_goals refine congrArg Value.bool ?_
  all_goals rw [← HD.out]
  all_goals (rw [Bool.eq_iff_iff, decide_eq_true_iff]; unfold RightP lackF immF; simp at *)
  all_goals omega

theorem refr_19 (d s im : Int) (w : World) (hd : 0 ≤ d ∧ d ≤ 7) (hs : 0 ≤ s ∧ s ≤ 7) (hi : -2147483648 ≤ im ∧ im ≤ 2147483647) :
    Calls Tryd.prog 7 #[.agg #[.int .i64 19, .int .i64 d, .int .i64 s, .int .i64 im]] w fun r w' => r = .returned (.bool (decide (RightP ⟨19, d, s, im⟩))) ∧ Below w.heap.size w w' := by
  have HB : Hid (∀ o, Below w.heap.size w (w.alloc o)) := fun _ => (Below.refl _ _).alloc (Nat.le_refl _) _
  obtain ⟨b, hb⟩ : ∃ b, decide (RightP ⟨19, d, s, im⟩) = b := ⟨_, rfl⟩
  have HD : Hid (decide (RightP ⟨19, d, s, im⟩) = b) := hb
  rw [hb]
  clear hb
  have d0 : decide (d < 0) = false := decide_eq_false (by omega)
  have d7 : decide (7 < d) = false := decide_eq_false (by omega)
  have s0 : decide (s < 0) = false := decide_eq_false (by omega)
  have s7 : decide (7 < s) = false := decide_eq_false (by omega)
  have i0 : decide (im < -2147483648) = false := decide_eq_false (by omega)
  have i7 : decide (2147483647 < im) = false := decide_eq_false (by omega)
  have q0 : ((((⟨#[49, 49, 49, 49, 49, 49, 49, 49, 49, 49, 49, 49, 48, 49, 49, 49, 49, 48, 48, 48, 48, 49]⟩ : ByteArray)[19]'(by decide)).toNat : Int) == 48) = true := by decide
  have q1 : ((((⟨#[48, 49, 49, 49, 48, 48, 48, 49, 49, 49, 49, 49, 48, 49, 49, 49, 49, 48, 48, 48, 48, 49]⟩ : ByteArray)[19]'(by decide)).toNat : Int) == 48) = true := by decide
  have q2 : ((((⟨#[49, 48, 48, 48, 49, 49, 49, 49, 49, 49, 49, 49, 49, 49, 49, 49, 49, 49, 48, 49, 48, 48]⟩ : ByteArray)[19]'(by decide)).toNat : Int) == 48) = false := by decide
  go_enter Tryd.func7, Tryd.ntmps7
  go_wp2
  all_goals go_ret
  all_goals refine ⟨?_, HB.out _⟩
  all_goals refine congrArg _ ?_
  all_goals show Value.bool _ = Value.bool b
  all_goals refine congrArg Value.bool ?_
  all_goals rw [← HD.out]
  all_goals (rw [Bool.eq_iff_iff, decide_eq_true_iff]; unfold RightP lackF immF; simp at *)
  all_goals omega

theorem refr_20 (d s im : Int) (w : World) (hd : 0 ≤ d ∧ d ≤ 7) (hs : 0 ≤ s ∧ s ≤ 7) (hi : -2147483648 ≤ im ∧ im ≤ 2147483647) :
    Calls Tryd.prog 7 #[.agg #[.int .i64 20, .int .i64 d, .int .i64 s, .int .i64 im]] w fun r w' => r = .returned (.bool (decide (RightP ⟨20, d, s, im⟩))) ∧ Below w.heap.size w w' := by
  have HB : Hid (∀ o, Below w.heap.size w (w.alloc o)) := fun _ => (Below.refl _ _).alloc (Nat.le_refl _) _
  obtain ⟨b, hb⟩ : ∃ b, decide (RightP ⟨20, d, s, im⟩) = b := ⟨_, rfl⟩
  have HD : Hid (decide (RightP ⟨20, d, s, im⟩) = b) := hb
  rw [hb]
  clear hb
  have d0 : decide (d < 0) = false := decide_eq_false (by omega)
  have d7 : decide (7 < d) = false := decide_eq_false (by omega)
  have s0 : decide (s < 0) = false := decide_eq_false (by omega)
  have s7 : decide (7 < s) = false := decide_eq_false (by omega)
  have i0 : decide (im < -2147483648) = false := decide_eq_false (by omega)
  have i7 : decide (2147483647 < im) = false := decide_eq_false (by omega)
  have q0 : ((((⟨#[49, 49, 49, 49, 49, 49, 49, 49, 49, 49, 49, 49, 48, 49, 49, 49, 49, 48, 48, 48, 48, 49]⟩ : ByteArray)[20]'(by decide)).toNat : Int) == 48) = true := by decide
  have q1 : ((((⟨#[48, 49, 49, 49, 48, 48, 48, 49, 49, 49, 49, 49, 48, 49, 49, 49, 49, 48, 48, 48, 48, 49]⟩ : ByteArray)[20]'(by decide)).toNat : Int) == 48) = true := by decide
  have q2 : ((((⟨#[49, 48, 48, 48, 49, 49, 49, 49, 49, 49, 49, 49, 49, 49, 49, 49, 49, 49, 48, 49, 48, 48]⟩ : ByteArray)[20]'(by decide)).toNat : Int) == 48) = true := by decide
  go_enter Tryd.func7, Tryd.ntmps7
  go_wp2
  all_goals go_ret
  all_goals refine ⟨?_, HB.out _⟩
  all_goals refine congrArg _ ?_
  all_goals show Value.bool _ = Value.bool b
  all_goals refine congrArg Value.bool ?_
  all_goals rw [← HD.out]
  all_goals (rw [Bool.eq_iff_iff, decide_eq_true_iff]; unfold RightP lackF immF; simp at *)
  all_goals omega

theorem refr_out0 (op d s im : Int) (w : World) (h : op < 0) :
    Calls Tryd.prog 7 #[.agg #[.int .i64 op, .int .i64 d, .int .i64 s, .int .i64 im]] w fun r w' => r = .returned (.bool (decide (RightP ⟨op, d, s, im⟩))) ∧ Below w.heap.size w w' := by
  have HB : Hid (∀ o, Below w.heap.size w (w.alloc o)) := fun _ => (Below.refl _ _).alloc (Nat.le_refl _) _
  have HD : Hid (decide (RightP ⟨op, d, s, im⟩) = false) := decide_eq_false (fun hr => by have h1 : 0 ≤ op ∧ op ≤ 20 := hr.1; have h2 : 0 ≤ d ∧ d ≤ 7 := hr.2.1; have h3 : 0 ≤ s ∧ s ≤ 7 := hr.2.2.1; have h4 : -2147483648 ≤ im ∧ im ≤ 2147483647 := hr.imm; omega)
  have c0 : decide (op < 0) = true := decide_eq_true h
  clear h
  rw [HD.out]
  go_enter Tryd.func7, Tryd.ntmps7
  go_wp2
  go_ret
  exact ⟨rfl, HB.out _⟩

theorem refr_out1 (op d s im : Int) (w : World) (h0 : ¬ op < 0) (h : 20 < op) :
    Calls Tryd.prog 7 #[.agg #[.int .i64 op, .int .i64 d, .int .i64 s, .int .i64 im]] w fun r w' => r = .returned (.bool (decide (RightP ⟨op, d, s, im⟩))) ∧ Below w.heap.size w w' := by
  have HB : Hid (∀ o, Below w.heap.size w (w.alloc o)) := fun _ => (Below.refl _ _).alloc (Nat.le_refl _) _
  have HD : Hid (decide (RightP ⟨op, d, s, im⟩) = false) := decide_eq_false (fun hr => by have h1 : 0 ≤ op ∧ op ≤ 20 := hr.1; have h2 : 0 ≤ d ∧ d ≤ 7 := hr.2.1; have h3 : 0 ≤ s ∧ s ≤ 7 := hr.2.2.1; have h4 : -2147483648 ≤ im ∧ im ≤ 2147483647 := hr.imm; omega)
  have c0 : decide (op < 0) = false := decide_eq_false h0
  have c1 : decide (20 < op) = true := decide_eq_true h
  clear h h0
  rw [HD.out]
  go_enter Tryd.func7, Tryd.ntmps7
  go_wp2
  go_ret
  exact ⟨rfl, HB.out _⟩

theorem refr_out2 (op d s im : Int) (w : World) (h0 : ¬ op < 0) (h1 : ¬ 20 < op) (h : d < 0) :
    Calls Tryd.prog 7 #[.agg #[.int .i64 op, .int .i64 d, .int .i64 s, .int .i64 im]] w fun r w' => r = .returned (.bool (decide (RightP ⟨op, d, s, im⟩))) ∧ Below w.heap.size w w' := by
  have HB : Hid (∀ o, Below w.heap.size w (w.alloc o)) := fun _ => (Below.refl _ _).alloc (Nat.le_refl _) _
  have HD : Hid (decide (RightP ⟨op, d, s, im⟩) = false) := decide_eq_false (fun hr => by have h1 : 0 ≤ op ∧ op ≤ 20 := hr.1; have h2 : 0 ≤ d ∧ d ≤ 7 := hr.2.1; have h3 : 0 ≤ s ∧ s ≤ 7 := hr.2.2.1; have h4 : -2147483648 ≤ im ∧ im ≤ 2147483647 := hr.imm; omega)
  have c0 : decide (op < 0) = false := decide_eq_false h0
  have c1 : decide (20 < op) = false := decide_eq_false h1
  have c2 : decide (d < 0) = true := decide_eq_true h
  clear h h0 h1
  rw [HD.out]
  go_enter Tryd.func7, Tryd.ntmps7
  go_wp2
  go_ret
  exact ⟨rfl, HB.out _⟩

theorem refr_out3 (op d s im : Int) (w : World) (h0 : ¬ op < 0) (h1 : ¬ 20 < op) (h2 : ¬ d < 0) (h : 7 < d) :
    Calls Tryd.prog 7 #[.agg #[.int .i64 op, .int .i64 d, .int .i64 s, .int .i64 im]] w fun r w' => r = .returned (.bool (decide (RightP ⟨op, d, s, im⟩))) ∧ Below w.heap.size w w' := by
  have HB : Hid (∀ o, Below w.heap.size w (w.alloc o)) := fun _ => (Below.refl _ _).alloc (Nat.le_refl _) _
  have HD : Hid (decide (RightP ⟨op, d, s, im⟩) = false) := decide_eq_false (fun hr => by have h1 : 0 ≤ op ∧ op ≤ 20 := hr.1; have h2 : 0 ≤ d ∧ d ≤ 7 := hr.2.1; have h3 : 0 ≤ s ∧ s ≤ 7 := hr.2.2.1; have h4 : -2147483648 ≤ im ∧ im ≤ 2147483647 := hr.imm; omega)
  have c0 : decide (op < 0) = false := decide_eq_false h0
  have c1 : decide (20 < op) = false := decide_eq_false h1
  have c2 : decide (d < 0) = false := decide_eq_false h2
  have c3 : decide (7 < d) = true := decide_eq_true h
  clear h h0 h1 h2
  rw [HD.out]
  go_enter Tryd.func7, Tryd.ntmps7
  go_wp2
  go_ret
  exact ⟨rfl, HB.out _⟩

theorem refr_out4 (op d s im : Int) (w : World) (h0 : ¬ op < 0) (h1 : ¬ 20 < op) (h2 : ¬ d < 0) (h3 : ¬ 7 < d) (h : s < 0) :
    Calls Tryd.prog 7 #[.agg #[.int .i64 op, .int .i64 d, .int .i64 s, .int .i64 im]] w fun r w' => r = .returned (.bool (decide (RightP ⟨op, d, s, im⟩))) ∧ Below w.heap.size w w' := by
  have HB : Hid (∀ o, Below w.heap.size w (w.alloc o)) := fun _ => (Below.refl _ _).alloc (Nat.le_refl _) _
  have HD : Hid (decide (RightP ⟨op, d, s, im⟩) = false) := decide_eq_false (fun hr => by have h1 : 0 ≤ op ∧ op ≤ 20 := hr.1; have h2 : 0 ≤ d ∧ d ≤ 7 := hr.2.1; have h3 : 0 ≤ s ∧ s ≤ 7 := hr.2.2.1; have h4 : -2147483648 ≤ im ∧ im ≤ 2147483647 := hr.imm; omega)
  have c0 : decide (op < 0) = false := decide_eq_false h0
  have c1 : decide (20 < op) = false := decide_eq_false h1
  have c2 : decide (d < 0) = false := decide_eq_false h2
  have c3 : decide (7 < d) = false := decide_eq_false h3
  have c4 : decide (s < 0) = true := decide_eq_true h
  clear h h0 h1 h2 h3
  rw [HD.out]
  go_enter Tryd.func7, Tryd.ntmps7
  go_wp2
  go_ret
  exact ⟨rfl, HB.out _⟩

theorem refr_out5 (op d s im : Int) (w : World) (h0 : ¬ op < 0) (h1 : ¬ 20 < op) (h2 : ¬ d < 0) (h3 : ¬ 7 < d) (h4 : ¬ s < 0) (h : 7 < s) :
    Calls Tryd.prog 7 #[.agg #[.int .i64 op, .int .i64 d, .int .i64 s, .int .i64 im]] w fun r w' => r = .returned (.bool (decide (RightP ⟨op, d, s, im⟩))) ∧ Below w.heap.size w w' := by
  have HB : Hid (∀ o, Below w.heap.size w (w.alloc o)) := fun _ => (Below.refl _ _).alloc (Nat.le_refl _) _
  have HD : Hid (decide (RightP ⟨op, d, s, im⟩) = false) := decide_eq_false (fun hr => by have h1 : 0 ≤ op ∧ op ≤ 20 := hr.1; have h2 : 0 ≤ d ∧ d ≤ 7 := hr.2.1; have h3 : 0 ≤ s ∧ s ≤ 7 := hr.2.2.1; have h4 : -2147483648 ≤ im ∧ im ≤ 2147483647 := hr.imm; omega)
  have c0 : decide (op < 0) = false := decide_eq_false h0
  have c1 : decide (20 < op) = false := decide_eq_false h1
  have c2 : decide (d < 0) = false := decide_eq_false h2
  have c3 : decide (7 < d) = false := decide_eq_false h3
  have c4 : decide (s < 0) = false := decide_eq_false h4
  have c5 : decide (7 < s) = true := decide_eq_true h
  clear h h0 h1 h2 h3 h4
  rw [HD.out]
  go_enter Tryd.func7, Tryd.ntmps7
  go_wp2
  go_ret
  exact ⟨rfl, HB.out _⟩

theorem refr_out6 (op d s im : Int) (w : World) (h0 : ¬ op < 0) (h1 : ¬ 20 < op) (h2 : ¬ d < 0) (h3 : ¬ 7 < d) (h4 : ¬ s < 0) (h5 : ¬ 7 < s) (h : im < -2147483648) :
    Calls Tryd.prog 7 #[.agg #[.int .i64 op, .int .i64 d, .int .i64 s, .int .i64 im]] w fun r w' => r = .returned (.bool (decide (RightP ⟨op, d, s, im⟩))) ∧ Below w.heap.size w w' := by
  have HB : Hid (∀ o, Below w.heap.size w (w.alloc o)) := fun _ => (Below.refl _ _).alloc (Nat.le_refl _) _
  have HD : Hid (decide (RightP ⟨op, d, s, im⟩) = false) := decide_eq_false (fun hr => by have h1 : 0 ≤ op ∧ op ≤ 20 := hr.1; have h2 : 0 ≤ d ∧ d ≤ 7 := hr.2.1; have h3 : 0 ≤ s ∧ s ≤ 7 := hr.2.2.1; have h4 : -2147483648 ≤ im ∧ im ≤ 2147483647 := hr.imm; omega)
  have c0 : decide (op < 0) = false := decide_eq_false h0
  have c1 : decide (20 < op) = false := decide_eq_false h1
  have c2 : decide (d < 0) = false := decide_eq_false h2
  have c3 : decide (7 < d) = false := decide_eq_false h3
  have c4 : decide (s < 0) = false := decide_eq_false h4
  have c5 : decide (7 < s) = false := decide_eq_false h5
  have c6 : decide (im < -2147483648) = true := decide_eq_true h
  clear h h0 h1 h2 h3 h4 h5
  rw [HD.out]
  go_enter Tryd.func7, Tryd.ntmps7
  go_wp2
  go_ret
  exact ⟨rfl, HB.out _⟩

theorem refr_out7 (op d s im : Int) (w : World) (h0 : ¬ op < 0) (h1 : ¬ 20 < op) (h2 : ¬ d < 0) (h3 : ¬ 7 < d) (h4 : ¬ s < 0) (h5 : ¬ 7 < s) (h6 : ¬ im < -2147483648) (h : 2147483647 < im) :
    Calls Tryd.prog 7 #[.agg #[.int .i64 op, .int .i64 d, .int .i64 s, .int .i64 im]] w fun r w' => r = .returned (.bool (decide (RightP ⟨op, d, s, im⟩))) ∧ Below w.heap.size w w' := by
  have HB : Hid (∀ o, Below w.heap.size w (w.alloc o)) := fun _ => (Below.refl _ _).alloc (Nat.le_refl _) _
  have HD : Hid (decide (RightP ⟨op, d, s, im⟩) = false) := decide_eq_false (fun hr => by have h1 : 0 ≤ op ∧ op ≤ 20 := hr.1; have h2 : 0 ≤ d ∧ d ≤ 7 := hr.2.1; have h3 : 0 ≤ s ∧ s ≤ 7 := hr.2.2.1; have h4 : -2147483648 ≤ im ∧ im ≤ 2147483647 := hr.imm; omega)
  have c0 : decide (op < 0) = false := decide_eq_false h0
  have c1 : decide (20 < op) = false := decide_eq_false h1
  have c2 : decide (d < 0) = false := decide_eq_false h2
  have c3 : decide (7 < d) = false := decide_eq_false h3
  have c4 : decide (s < 0) = false := decide_eq_false h4
  have c5 : decide (7 < s) = false := decide_eq_false h5
  have c6 : decide (im < -2147483648) = false := decide_eq_false h6
  have c7 : decide (2147483647 < im) = true := decide_eq_true h
  clear h h0 h1 h2 h3 h4 h5 h6
  rw [HD.out]
  go_enter Tryd.func7, Tryd.ntmps7
  go_wp2
  go_ret
  exact ⟨rfl, HB.out _⟩

theorem refr_any (x : In4) (w : World) : Calls Tryd.prog 7 #[.agg #[.int .i64 x.op, .int .i64 x.d, .int .i64 x.s, .int .i64 x.imm]] w fun r w' => r = .returned (.bool (decide (RightP x))) ∧ Below w.heap.size w w' := by
  obtain ⟨op, d, s, im⟩ := x
  dsimp only
  by_cases h0 : op < 0
  · exact refr_out0 op d s im w h0
  by_cases h1 : 20 < op
  · exact refr_out1 op d s im w h0 h1
  by_cases h2 : d < 0
  · exact refr_out2 op d s im w h0 h1 h2
  by_cases h3 : 7 < d
  · exact refr_out3 op d s im w h0 h1 h2 h3
  by_cases h4 : s < 0
  · exact refr_out4 op d s im w h0 h1 h2 h3 h4
  by_cases h5 : 7 < s
  · exact refr_out5 op d s im w h0 h1 h2 h3 h4 h5
  by_cases h6 : im < -2147483648
  · exact refr_out6 op d s im w h0 h1 h2 h3 h4 h5 h6
  by_cases h7 : 2147483647 < im
  · exact refr_out7 op d s im w h0 h1 h2 h3 h4 h5 h6 h7
  have hd : 0 ≤ d ∧ d ≤ 7 := by omega
  have hs : 0 ≤ s ∧ s ≤ 7 := by omega
  have hi : -2147483648 ≤ im ∧ im ≤ 2147483647 := by omega
  have ho : op = 0 ∨ op = 1 ∨ op = 2 ∨ op = 3 ∨ op = 4 ∨ op = 5 ∨ op = 6 ∨ op = 7 ∨ op = 8 ∨ op = 9 ∨ op = 10 ∨ op = 11 ∨ op = 12 ∨ op = 13 ∨ op = 14 ∨ op = 15 ∨ op = 16 ∨ op = 17 ∨ op = 18 ∨ op = 19 ∨ op = 20 := by omega
  rcases ho with rfl | rfl | rfl | rfl | rfl | rfl | rfl | rfl | rfl | rfl | rfl | rfl | rfl | rfl | rfl | rfl | rfl | rfl | rfl | rfl | rfl
  · exact refr_0 d s im w hd hs hi
  · exact refr_1 d s im w hd hs hi
  · exact refr_2 d s im w hd hs hi
  · exact refr_3 d s im w hd hs hi
  · exact refr_4 d s im w hd hs hi
  · exact refr_5 d s im w hd hs hi
  · exact refr_6 d s im w hd hs hi
  · exact refr_7 d s im w hd hs hi
  · exact refr_8 d s im w hd hs hi
  · exact refr_9 d s im w hd hs hi
  · exact refr_10 d s im w hd hs hi
  · exact refr_11 d s im w hd hs hi
  · exact refr_12 d s im w hd hs hi
  · exact refr_13 d s im w hd hs hi
  · exact refr_14 d s im w hd hs hi
  · exact refr_15 d s im w hd hs hi
  · exact refr_16 d s im w hd hs hi
  · exact refr_17 d s im w hd hs hi
  · exact refr_18 d s im w hd hs hi
  · exact refr_19 d s im w hd hs hi
  · exact refr_20 d s im w hd hs hi

end Go.Proofs.YtielliiadacbbaaDoor.Cd
