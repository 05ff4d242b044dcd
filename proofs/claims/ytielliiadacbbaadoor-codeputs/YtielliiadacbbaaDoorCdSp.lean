/-
  Layer 17's law: what it says first. No condition.
-/
import Derived.Test.YtielliiadacbbaaDoorCdGet
namespace Go.Proofs.YtielliiadacbbaaDoor.Cd
open Go.ChangeShapes Go.WideShapes Go.ChangeAt Go.RowKit Go.Proofs.Fa
open Go.Proofs.YtielliiadacbbaaDoor.Nv (lt_of_heap lt_of_cell cell_of_heap free_of_heap)
open Go.Proofs.YtielliiadacbbaaDoor.Le (putF numF OutS num_any4 string_some errV getF leVal)

set_option maxRecDepth 100000
set_option maxHeartbeats 1000000

def spX : In4 := ⟨0, 3, 0, 5⟩
theorem sp_right : ∀ x ∈ [spX], RightP x := by decide +kernel
theorem sp_bytes : progB [spX] = [0, 3, 0, 0, 5, 0, 0, 128] := by decide +kernel
theorem sp_put : putR [spX] = .tuple #[.string ⟨#[0, 3, 0, 0, 5, 0, 0, 128]⟩, .nilIface] := by
  unfold putR
  rw [if_pos (by decide +kernel)]
  unfold putV
  rw [sp_bytes]

theorem speaks_any (w : World) : Calls Tryd.prog 5 #[] w fun r w' => r = .returned (.bool true) ∧ Below w.heap.size w w' := by
  obtain ⟨w0, hw0⟩ : ∃ w0, w0 = w.alloc (Obj.cells #[.int .i64 0, .int .i64 3, .int .i64 0, .int .i64 5] 27) := ⟨_, rfl⟩
  have HB0 : Hid (Below w.heap.size w w0) := by rw [hw0]; exact (Below.refl _ _).alloc (Nat.le_refl _) _
  have hX0 : w0.heap[w.heap.size]? = some (.cells #[.int .i64 0, .int .i64 3, .int .i64 0, .int .i64 5] 27 (0, 0)) := by rw [hw0]; exact heap_alloc_new w _
  have hat : InsAt w0 (.slice (some ⟨w.heap.size, 0, none⟩) 1 1) [spX] := .inr ⟨w.heap.size, 0, 1, rfl, Nat.le_refl _, by decide, lt_of_heap hX0, fun i hi => by
    have : i = 0 := by simpa using hi
    subst this
    exact ⟨cell_of_heap hX0 0 _ rfl, cell_of_heap hX0 1 _ rfl, cell_of_heap hX0 2 _ rfl, cell_of_heap hX0 3 _ rfl⟩⟩
  have hP := put_any _ _ w0 hat (by decide)
  rw [sp_put] at hP
  have hG := fun w => get_any [spX] sp_right (by decide) w
  rw [sp_bytes] at hG
  have HG : Hid (∀ w, _) := hG
  clear hat hX0 hG
  go_enter Tryd.func5, Tryd.ntmps5
  go_wp2_with fail
  rw [← hw0]
  clear hw0
  refine hP.mono ?_
  rintro r w1 ⟨rfl, hb1⟩
  have HB1 : Hid (Below w.heap.size w w1) := HB0.out.trans (hb1.mono HB0.out.size)
  clear hb1 hP HB0
  go_wp2_with fail
  refine (HG.out _).mono ?_
  rintro r w2 ⟨v, rfl, hr2, hb2⟩
  have HB2 : Hid (Below w.heap.size w w2) := HB1.out.trans (hb2.mono HB1.out.size)
  clear hb2 HG HB1
  rcases hr2.at with ⟨_, h0⟩ | ⟨g, off, cap, hv, h1, h2, h3, h4⟩
  · cases h0
  subst hv
  obtain ⟨c0, c1, c2, c3⟩ := h4 0 (by decide)
  clear hr2 h4
  have HJ := fun w => jumps_any 16 w
  go_wp2_with fail
  refine (HJ _).mono ?_
  rintro r w3 ⟨rfl, hw3⟩
  subst hw3
  go_wp2
  go_ret
  exact ⟨rfl, HB2.out⟩

end Go.Proofs.YtielliiadacbbaaDoor.Cd
