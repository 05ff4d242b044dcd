/-
  Layer 17's calls of an instruction: isRegister, lacks, imms, Jumps, Right. No condition.
-/
import Derived.Test.YtncjlcgndhodmabDoorNvM
import Derived.Test.YtncjlcgndhodmabDoorCdP
namespace Go.Proofs.YtncjlcgndhodmabDoor.Cd
open Go.ChangeShapes Go.WideShapes Go.ChangeAt Go.RowKit
open Go.Proofs.YtncjlcgndhodmabDoor.Nv (lt_of_heap lt_of_cell cell_of_heap free_of_heap)

set_option maxRecDepth 100000
set_option maxHeartbeats 1000000

theorem reg_any (r : Int) (w : World) : Calls Tryd.prog 26 #[.int .i64 r] w fun e w' => e = .returned (.bool (decide (0 ≤ r ∧ r ≤ 7))) ∧ w' = w := by
  go_enter Tryd.func26, Tryd.ntmps26
  go_wp2
  · rename_i h1
    go_ret
    exact ⟨by rw [show decide (0 ≤ r ∧ r ≤ 7) = decide (r < 8) by rw [decide_eq_decide]; omega]; rfl, rfl⟩
  · rename_i h1
    go_ret
    exact ⟨by rw [decide_eq_false (by omega : ¬ 0 ≤ r)]; rfl, rfl⟩

theorem jumps_any (r : Int) (w : World) : Calls Tryd.prog 43 #[.int .i64 r] w fun e w' => e = .returned (.bool (decide (12 ≤ r ∧ r ≤ 16))) ∧ w' = w := by
  go_enter Tryd.func43, Tryd.ntmps43
  go_wp2
  · rename_i h1
    go_ret
    exact ⟨by rw [show decide (12 ≤ r ∧ r ≤ 16) = decide (r ≤ 16) by rw [decide_eq_decide]; omega]; rfl, rfl⟩
  · rename_i h1
    go_ret
    exact ⟨by rw [decide_eq_false (by omega : ¬ 12 ≤ r)]; rfl, rfl⟩

theorem imms_any (r : Int) (w : World) : Calls Tryd.prog 28 #[.int .i64 r] w fun e w' => e = .returned (.tuple #[.int .i64 (immF r).1, .int .i64 (immF r).2]) ∧ w' = w := by
  have HJ := fun w => jumps_any r w
  have HJ' : Hid (∀ w, _) := HJ
  clear HJ
  go_enter Tryd.func28, Tryd.ntmps28
  go_wp2_with fail
  all_goals simp only [beq_iff_eq, beq_eq_false_iff_ne, ne_eq] at *
  all_goals first
    | (go_ret2; first | exact ⟨by rw [show immF r = (0, 0) by unfold immF; (repeat' split) <;> first | rfl | (exfalso; omega)]; rfl, rfl⟩ | exact ⟨by rw [show immF r = (0, 2147483647) by unfold immF; (repeat' split) <;> first | rfl | (exfalso; omega)]; rfl, rfl⟩ | exact ⟨by rw [show immF r = (1, 64) by unfold immF; (repeat' split) <;> first | rfl | (exfalso; omega)]; rfl, rfl⟩ | exact ⟨by rw [show immF r = (1, 3) by unfold immF; (repeat' split) <;> first | rfl | (exfalso; omega)]; rfl, rfl⟩)
    | skip
  refine (HJ'.out _).mono ?_
  rintro e w1 ⟨rfl, hw⟩
  subst hw
  go_wp2
  · go_ret2
    exact ⟨by rw [show immF r = (0, 127) by unfold immF; (repeat' split) <;> first | rfl | (exfalso; omega)]; rfl, rfl⟩
  · go_ret2
    exact ⟨by rw [show immF r = (-2147483648, 2147483647) by unfold immF; (repeat' split) <;> first | rfl | (exfalso; omega)]; rfl, rfl⟩

theorem lacks_any (op d s im : Int) (w : World) : Calls Tryd.prog 27 #[.agg #[.int .i64 op, .int .i64 d, .int .i64 s, .int .i64 im]] w fun e w' => e = .returned (.bool (lackF op d s)) ∧ Below w.heap.size w w' := by
  have hb : Below w.heap.size w (w.alloc (Obj.cells #[.int .i64 op, .int .i64 d, .int .i64 s, .int .i64 im] 44)) := (Below.refl _ _).alloc (Nat.le_refl _) _
  go_enter Tryd.func27, Tryd.ntmps27
  go_wp2
  all_goals go_ret
  all_goals refine ⟨?_, hb⟩
  all_goals simp only [beq_iff_eq, beq_eq_false_iff_ne, bne_iff_ne, bne_eq_false_iff_eq, ne_eq] at *
  all_goals first
    | (rw [show lackF op d s = (s == 0) by unfold lackF; (repeat' split) <;> first | rfl | (simp; omega) | (exfalso; omega)]; rfl)
    | (rw [show lackF op d s = false by unfold lackF; (repeat' split) <;> first | rfl | (simp; omega) | (exfalso; omega)]; rfl)
    | (rw [show lackF op d s = true by unfold lackF; (repeat' split) <;> first | rfl | (exfalso; omega)]; rfl)
    | skip
  all_goals trace_state

theorem right_any (x : In4) (w : World) : Calls Tryd.prog 15 #[.agg #[.int .i64 x.op, .int .i64 x.d, .int .i64 x.s, .int .i64 x.imm]] w fun e w' => e = .returned (.bool (decide (RightP x))) ∧ Below w.heap.size w w' := by
  obtain ⟨op, d, s, im⟩ := x
  dsimp only
  obtain ⟨w0, hw0⟩ : ∃ w0, w0 = w.alloc (Obj.cells #[.int .i64 op, .int .i64 d, .int .i64 s, .int .i64 im] 44) := ⟨_, rfl⟩
  have HB0 : Hid (Below w.heap.size w w0) := by rw [hw0]; exact (Below.refl _ _).alloc (Nat.le_refl _) _
  have hX0 : w0.heap[w.heap.size]? = some (.cells #[.int .i64 op, .int .i64 d, .int .i64 s, .int .i64 im] 44 (0, 0)) := by rw [hw0]; exact heap_alloc_new w _
  have c0 := cell_of_heap hX0 0 _ rfl
  have c1 := cell_of_heap hX0 1 _ rfl
  have c2 := cell_of_heap hX0 2 _ rfl
  have c3 := cell_of_heap hX0 3 _ rfl
  have HX0 : Hid (w0.heap[w.heap.size]? = some (.cells #[.int .i64 op, .int .i64 d, .int .i64 s, .int .i64 im] 44 (0, 0))) := hX0
  clear hX0
  have HR1 : Hid (∀ w, _) := fun w => reg_any d w
  have HR2 : Hid (∀ w, _) := fun w => reg_any s w
  have HL : Hid (∀ w, _) := fun w => lacks_any op d s im w
  have HI : Hid (∀ w, _) := fun w => imms_any op w
  by_cases h1 : 0 ≤ op ∧ op ≤ 20
  case neg =>
    have HD : Hid (decide (RightP ⟨op, d, s, im⟩) = false) := decide_eq_false (fun h => h1 h.1)
    by_cases h0 : op < 0
    · have b1 : decide (op < 0) = true := decide_eq_true h0
      go_enter Tryd.func15, Tryd.ntmps15
      go_wp2_with fail
      rw [← hw0]
      go_wp2_with fail
      go_ret
      exact ⟨by rw [HD.out]; rfl, HB0.out⟩
    · have b1 : decide (op < 0) = false := decide_eq_false h0
      have b2 : decide (20 < op) = true := decide_eq_true (by omega)
      go_enter Tryd.func15, Tryd.ntmps15
      go_wp2_with fail
      rw [← hw0]
      go_wp2_with fail
      go_ret
      exact ⟨by rw [HD.out]; rfl, HB0.out⟩
  have b1 : decide (op < 0) = false := decide_eq_false (by omega)
  have b2 : decide (20 < op) = false := decide_eq_false (by omega)
  by_cases h2 : 0 ≤ d ∧ d ≤ 7
  case neg =>
    have HD : Hid (decide (RightP ⟨op, d, s, im⟩) = false) := decide_eq_false (fun h => h2 h.2.1)
    rw [decide_eq_false h2] at HR1
    go_enter Tryd.func15, Tryd.ntmps15
    go_wp2_with fail
    rw [← hw0]
    go_wp2_with fail
    refine (HR1.out _).mono ?_
    rintro e w1 ⟨rfl, hw1⟩
    have HB1 : Hid (Below w.heap.size w w1) := by rw [hw1]; exact HB0.out
    have HX1 : Hid (w1.heap[w.heap.size]? = some (.cells #[.int .i64 op, .int .i64 d, .int .i64 s, .int .i64 im] 44 (0, 0))) := by rw [hw1]; exact HX0.out
    clear hw1 HB0
    clear c0 c1 c2 c3
    go_wp2_with fail
    go_ret
    exact ⟨by rw [HD.out]; rfl, HB1.out⟩
  rw [decide_eq_true h2] at HR1
  by_cases h3 : 0 ≤ s ∧ s ≤ 7
  case neg =>
    have HD : Hid (decide (RightP ⟨op, d, s, im⟩) = false) := decide_eq_false (fun h => h3 h.2.2.1)
    rw [decide_eq_false h3] at HR2
    go_enter Tryd.func15, Tryd.ntmps15
    go_wp2_with fail
    rw [← hw0]
    go_wp2_with fail
    refine (HR1.out _).mono ?_
    rintro e w1 ⟨rfl, hw1⟩
    have HB1 : Hid (Below w.heap.size w w1) := by rw [hw1]; exact HB0.out
    have HX1 : Hid (w1.heap[w.heap.size]? = some (.cells #[.int .i64 op, .int .i64 d, .int .i64 s, .int .i64 im] 44 (0, 0))) := by rw [hw1]; exact HX0.out
    clear hw1 HB0
    clear c0 c1 c2 c3
    have c0 := cell_of_heap HX1.out 0 _ rfl
    have c1 := cell_of_heap HX1.out 1 _ rfl
    have c2 := cell_of_heap HX1.out 2 _ rfl
    have c3 := cell_of_heap HX1.out 3 _ rfl
    go_wp2_with fail
    refine (HR2.out _).mono ?_
    rintro e w2 ⟨rfl, hw2⟩
    have HB2 : Hid (Below w.heap.size w w2) := by rw [hw2]; exact HB1.out
    have HX2 : Hid (w2.heap[w.heap.size]? = some (.cells #[.int .i64 op, .int .i64 d, .int .i64 s, .int .i64 im] 44 (0, 0))) := by rw [hw2]; exact HX1.out
    clear hw2 HB1
    clear c0 c1 c2 c3
    go_wp2_with fail
    go_ret
    exact ⟨by rw [HD.out]; rfl, HB2.out⟩
  rw [decide_eq_true h3] at HR2
  cases h4 : lackF op d s
  case false =>
    have HD : Hid (decide (RightP ⟨op, d, s, im⟩) = false) := decide_eq_false (fun h => by have h' : lackF op d s = true := h.2.2.2.1; rw [h4] at h'; cases h')
    rw [h4] at HL
    clear h4
    go_enter Tryd.func15, Tryd.ntmps15
    go_wp2_with fail
    rw [← hw0]
    go_wp2_with fail
    refine (HR1.out _).mono ?_
    rintro e w1 ⟨rfl, hw1⟩
    have HB1 : Hid (Below w.heap.size w w1) := by rw [hw1]; exact HB0.out
    have HX1 : Hid (w1.heap[w.heap.size]? = some (.cells #[.int .i64 op, .int .i64 d, .int .i64 s, .int .i64 im] 44 (0, 0))) := by rw [hw1]; exact HX0.out
    clear hw1 HB0
    clear c0 c1 c2 c3
    have c0 := cell_of_heap HX1.out 0 _ rfl
    have c1 := cell_of_heap HX1.out 1 _ rfl
    have c2 := cell_of_heap HX1.out 2 _ rfl
    have c3 := cell_of_heap HX1.out 3 _ rfl
    go_wp2_with fail
    refine (HR2.out _).mono ?_
    rintro e w2 ⟨rfl, hw2⟩
    have HB2 : Hid (Below w.heap.size w w2) := by rw [hw2]; exact HB1.out
    have HX2 : Hid (w2.heap[w.heap.size]? = some (.cells #[.int .i64 op, .int .i64 d, .int .i64 s, .int .i64 im] 44 (0, 0))) := by rw [hw2]; exact HX1.out
    clear hw2 HB1
    clear c0 c1 c2 c3
    have c0 := cell_of_heap HX2.out 0 _ rfl
    have c1 := cell_of_heap HX2.out 1 _ rfl
    have c2 := cell_of_heap HX2.out 2 _ rfl
    have c3 := cell_of_heap HX2.out 3 _ rfl
    go_wp2_with fail
    refine (HL.out _).mono ?_
    rintro e w3 ⟨rfl, hb3⟩
    have HB3 : Hid (Below w.heap.size w w3) := HB2.out.trans (hb3.mono HB2.out.size)
    have HX3 : Hid (w3.heap[w.heap.size]? = some (.cells #[.int .i64 op, .int .i64 d, .int .i64 s, .int .i64 im] 44 (0, 0))) := (hb3.block _ (lt_of_heap HX2.out)).trans HX2.out
    clear hb3 HB2
    clear c0 c1 c2 c3
    go_wp2_with fail
    go_ret
    exact ⟨by rw [HD.out]; rfl, HB3.out⟩
  rw [h4] at HL
  have HD : Hid (decide (RightP ⟨op, d, s, im⟩) = (decide ((immF op).1 ≤ im) && decide (im ≤ (immF op).2))) := by
    show _ = _
    rw [← Bool.decide_and, decide_eq_decide]
    exact ⟨fun h => h.2.2.2.2, fun h => ⟨h1, h2, h3, h4, h⟩⟩
  clear h4 h1 h2 h3
  generalize (immF op).1 = lo at *
  generalize (immF op).2 = hi at *
  go_enter Tryd.func15, Tryd.ntmps15
  go_wp2_with fail
  rw [← hw0]
  go_wp2_with fail
  refine (HR1.out _).mono ?_
  rintro e w1 ⟨rfl, hw1⟩
  have HB1 : Hid (Below w.heap.size w w1) := by rw [hw1]; exact HB0.out
  have HX1 : Hid (w1.heap[w.heap.size]? = some (.cells #[.int .i64 op, .int .i64 d, .int .i64 s, .int .i64 im] 44 (0, 0))) := by rw [hw1]; exact HX0.out
  clear hw1 HB0
  clear c0 c1 c2 c3
  have c0 := cell_of_heap HX1.out 0 _ rfl
  have c1 := cell_of_heap HX1.out 1 _ rfl
  have c2 := cell_of_heap HX1.out 2 _ rfl
  have c3 := cell_of_heap HX1.out 3 _ rfl
  go_wp2_with fail
  refine (HR2.out _).mono ?_
  rintro e w2 ⟨rfl, hw2⟩
  have HB2 : Hid (Below w.heap.size w w2) := by rw [hw2]; exact HB1.out
  have HX2 : Hid (w2.heap[w.heap.size]? = some (.cells #[.int .i64 op, .int .i64 d, .int .i64 s, .int .i64 im] 44 (0, 0))) := by rw [hw2]; exact HX1.out
  clear hw2 HB1
  clear c0 c1 c2 c3
  have c0 := cell_of_heap HX2.out 0 _ rfl
  have c1 := cell_of_heap HX2.out 1 _ rfl
  have c2 := cell_of_heap HX2.out 2 _ rfl
  have c3 := cell_of_heap HX2.out 3 _ rfl
  go_wp2_with fail
  refine (HL.out _).mono ?_
  rintro e w3 ⟨rfl, hb3⟩
  have HB3 : Hid (Below w.heap.size w w3) := HB2.out.trans (hb3.mono HB2.out.size)
  have HX3 : Hid (w3.heap[w.heap.size]? = some (.cells #[.int .i64 op, .int .i64 d, .int .i64 s, .int .i64 im] 44 (0, 0))) := (hb3.block _ (lt_of_heap HX2.out)).trans HX2.out
  clear hb3 HB2
  clear c0 c1 c2 c3
  have c0 := cell_of_heap HX3.out 0 _ rfl
  have c1 := cell_of_heap HX3.out 1 _ rfl
  have c2 := cell_of_heap HX3.out 2 _ rfl
  have c3 := cell_of_heap HX3.out 3 _ rfl
  go_wp2_with fail
  refine (HI.out _).mono ?_
  rintro e w4 ⟨rfl, hw4⟩
  have HB4 : Hid (Below w.heap.size w w4) := by rw [hw4]; exact HB3.out
  have HX4 : Hid (w4.heap[w.heap.size]? = some (.cells #[.int .i64 op, .int .i64 d, .int .i64 s, .int .i64 im] 44 (0, 0))) := by rw [hw4]; exact HX3.out
  clear hw4 HB3
  clear c0 c1 c2 c3
  have c0 := cell_of_heap HX4.out 0 _ rfl
  have c1 := cell_of_heap HX4.out 1 _ rfl
  have c2 := cell_of_heap HX4.out 2 _ rfl
  have c3 := cell_of_heap HX4.out 3 _ rfl
  by_cases h5 : lo ≤ im
  · have b5 : decide (lo ≤ im) = true := decide_eq_true h5
    rw [b5, Bool.true_and] at HD
    clear h5
    go_wp2_with fail
    go_ret
    exact ⟨by rw [HD.out]; rfl, HB4.out⟩
  · have b5 : decide (lo ≤ im) = false := decide_eq_false h5
    rw [b5, Bool.false_and] at HD
    clear h5
    go_wp2_with fail
    go_ret
    exact ⟨by rw [HD.out]; rfl, HB4.out⟩

end Go.Proofs.YtncjlcgndhodmabDoor.Cd
