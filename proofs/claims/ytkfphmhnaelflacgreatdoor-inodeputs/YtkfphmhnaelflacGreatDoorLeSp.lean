/-
  'speaks' of layer 1's statements answers true, and turns nothing that was there. No condition.
-/
import Derived.Test.YtkfphmhnaelflacGreatDoorLeIn
namespace Go.Proofs.YtkfphmhnaelflacGreatDoor.Le
open Go.ChangeShapes Go.WideShapes Go.ChangeAt Go.RowKit Go.Lib

theorem OutS_new (w : World) : OutS (w.alloc (.cells #[.slice none 0 0, .bool false] 60)) w.heap.size (some []) := by
  refine ⟨.slice none 0 0, ?_, World.ownsRow_nil _ _ _ _⟩
  show (w.heap.push _)[w.heap.size]? = _
  simp

theorem sp1 : numF (some []) 258 3 = some [2, 1, 0] := by decide +kernel
theorem sp2 : textF (some [2, 1, 0]) ⟨#[97]⟩ 2 = some [2, 1, 0, 97, 0] := by decide +kernel
theorem sp3 : inNumF ⟨#[2, 1, 0, 97, 0]⟩ 0 3 = (258, ⟨#[97, 0]⟩, 0) := by decide +kernel
theorem sp4 : takeF ⟨#[97, 0]⟩ 0 2 = (⟨#[97, 0]⟩, ByteArray.empty, 0) := by decide +kernel
theorem sp5 : errV (endF ByteArray.empty 0) = .nilIface := rfl
theorem sp6 : putF 5 1 = ⟨#[5]⟩ := by decide +kernel

end Go.Proofs.YtkfphmhnaelflacGreatDoor.Le
