/-
  A copy of a set. No condition.
-/
import Derived.Test.YtkflhakgfpiiaaaDoorBtSp
import Derived.Deep.WholeRow
namespace Go.Proofs.YtkflhakgfpiiaaaDoor.Bt
open Go.ChangeShapes Go.WideShapes Go.ChangeAt Go.RowKit

set_option maxRecDepth 100000
set_option maxHeartbeats 1000000

theorem setC_one {c : Array Value} {n : Nat} {B : Nat → Nat} (h : SetC c n B) : c.all (·.oneCell') = true := by
  rw [Array.all_eq_true]
  intro i hi
  rw [h.size] at hi
  by_cases h0 : i = 0
  · subst h0
    have := h.bound
    rw [Array.getElem?_eq_getElem (by rw [h.size]; omega)] at this
    rw [Option.some.inj this]; rfl
  · have := h.byte (i - 1) (by omega)
    rw [show 1 + (i - 1) = i by omega, Array.getElem?_eq_getElem (by rw [h.size]; omega)] at this
    rw [Option.some.inj this]; rfl
theorem info_size : (Tryd.prog.info? 60).map (·.size) = some 505 := by kernel_rfl

theorem copy_any (b n : Nat) (B : Nat → Nat) (w : World) (h : SetAt w b n B) : Calls Tryd.prog 25 #[.pointer (some ⟨b, 0, none⟩)] w fun r w' => r = .returned (.pointer (some ⟨w.heap.size, 0, none⟩)) ∧ SetAt w' w.heap.size n B ∧ Below w.heap.size w w' := by
  obtain ⟨c, hc, hs⟩ := h
  have hla : Sem.run Tryd.prog (Instr.loadAt 60 (.pointer (some ⟨b, 0, none⟩))) w = .ok (.agg c) w := by
    simp only [Instr.loadAt, Instr.sureAddr, Sem.run_bind, Sem.run_pure, Result.andThen]
    exact run_loadVar_row w b 60 60 c (0, 0) _ hc Tryd.underlying60 rfl (by rw [info_size, hs.size])
  have hst := run_storeCells_new (P := Tryd.prog) w 60 Tryd.zeroCells60 c (by rw [info_size, hs.size]) (by rw [hs.size, zero_eq]; simp) (setC_one hs)
  have hsz := hs.size
  have HS : Hid (SetC c n B) := hs
  clear hs hc
  go_enter Tryd.func25, Tryd.ntmps25
  go_wp2
  unfold Oper.wp execOp
  simp only [Sem.run_bind, Sem.run_pure]
  change Oper.upon _ _ _ _ _ ((Sem.run _ (Instr.loadAt 60 (.pointer (some ⟨b, 0, none⟩))) w).andThen _)
  rw [hla]
  simp only [Result.andThen_ok]
  clear hla
  go_wp2
  go_ret
  exact ⟨rfl, ⟨c, heap_alloc_new _ _, HS.out⟩, (Below.refl _ _).alloc (Nat.le_refl _) _⟩

end Go.Proofs.YtkflhakgfpiiaaaDoor.Bt
