/-
  A set as a sector; what a statement asks first. Condition: the table of four steps holds what its initialiser lays.
-/
import Derived.Test.YtkflhakgfpiiaaaDoorBtL
import Derived.Test.YtkflhakgfpiiaaaDoorSlKind
import Derived.Laws.BytesArg
namespace Go.Proofs.YtkflhakgfpiiaaaDoor.Bt
open Go.ChangeShapes Go.WideShapes Go.ChangeAt Go.RowKit
open Go.Proofs.YtkflhakgfpiiaaaDoor.Mk (NibAt sealS sealM_any sealF sealS_size sealS_data aheadL headS headS_size headS_data)

set_option maxRecDepth 100000
set_option maxHeartbeats 1000000

/-- The body of a set's sector. -/
def bodyL (B : Nat → Nat) : List Int := (List.range 504).map (fun j => (B j : Int))
def bodyS (B : Nat → Nat) : ByteArray := strOfNums (bodyL B)
theorem bodyL_length (B : Nat → Nat) : (bodyL B).length = 504 := by simp [bodyL]
theorem bodyS_size (B : Nat → Nat) : (bodyS B).size = 504 := by unfold bodyS; rw [strOfNums_size, bodyL_length]
theorem sealF_body (B : Nat → Nat) : sealF 5 (bodyS B) = (sealS 5 (bodyS B), 0) := by unfold sealF; rw [if_pos (by decide), if_pos (by rw [bodyS_size]; decide)]

theorem put_nil (w : World) : Calls Tryd.prog 18 #[.pointer none] w fun r w' => r = .returned (.tuple #[.string ⟨#[]⟩, errV 1]) ∧ w' = w := by
  go_enter Tryd.func18, Tryd.ntmps18
  go_wp2
  go_ret2
  exact ⟨rfl, rfl⟩

theorem put_any (b n : Nat) (B : Nat → Nat) (w : World) (h : SetAt w b n B) (hn : NibAt w) : Calls Tryd.prog 18 #[.pointer (some ⟨b, 0, none⟩)] w fun r w' => r = .returned (.tuple #[.string (sealS 5 (bodyS B)), .nilIface]) ∧ Below w.heap.size w w' := by
  obtain ⟨c, hc, hs⟩ := h
  have hU := run_convert_bytes_arg (P := Tryd.prog) w 68 5 Tryd.underlying68 Tryd.underlying5 b 1 504 504 (bodyL B) (bodyL_length B) (by
    intro i hi
    rw [cell_of_heap hc (1 + i) _ (hs.byte i hi)]
    simp [bodyL, hi]) 9 Tryd.underlying9
  have hS := sealM_any 5 (bodyS B) w hn
  rw [sealF_body] at hS
  have e : (strOfNums (bodyL B)) = bodyS B := rfl
  rw [e] at hU
  clear e hc hs
  generalize bodyS B = bs at *
  go_enter Tryd.func18, Tryd.ntmps18
  go_wp2_with fail
  refine hS.mono ?_
  rintro r w1 ⟨rfl, hb⟩
  dsimp only
  rw [show Mk.errV 0 = .nilIface from rfl]
  go_wp2
  go_ret2
  exact ⟨rfl, hb⟩

end Go.Proofs.YtkflhakgfpiiaaaDoor.Bt
