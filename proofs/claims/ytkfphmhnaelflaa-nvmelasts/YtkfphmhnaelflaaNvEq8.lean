/-
  Two arrays of eight texts that are the same. No condition.
-/
import Derived.Test.YtkfphmhnaelflaaNvM
import Derived.DeepKeys
namespace Go.Proofs.Ytkfphmhnaelflaa.Nv
open Go.ChangeShapes Go.WideShapes Go.ChangeAt Go.RowKit

theorem eq8 (x0 x1 x2 x3 x4 x5 x6 x7 : ByteArray) (w : World) (h0 : x0.size ≤ maxLen) (h1 : x1.size ≤ maxLen) (h2 : x2.size ≤ maxLen) (h3 : x3.size ≤ maxLen) (h4 : x4.size ≤ maxLen) (h5 : x5.size ≤ maxLen) (h6 : x6.size ≤ maxLen) (h7 : x7.size ≤ maxLen) : (Op.equalIn 10000 25 (.agg #[.string x0, .string x1, .string x2, .string x3, .string x4, .string x5, .string x6, .string x7]) (.agg #[.string x0, .string x1, .string x2, .string x3, .string x4, .string x5, .string x6, .string x7])).run Try.prog w = .ok true w := by
  have hk : Try.prog.keyTypeAt 2 25 = true := by kernel_rfl
  have c8 : Try.prog.cellsOf 25 = 8 := by kernel_rfl
  have c1 : Try.prog.cellsOf 9 = 1 := by kernel_rfl
  have hr : List.range 8 = [0, 1, 2, 3, 4, 5, 6, 7] := rfl
  obtain ⟨l, hl⟩ : ∃ l, Try.prog.keyLits 3 25 (Value.agg #[.string x0, .string x1, .string x2, .string x3, .string x4, .string x5, .string x6, .string x7]).cells.toList = some l := by
    simp [Program.keyLits, Try.underlying25, Try.underlying9, c8, c1, hr, Value.cells, h0, h1, h2, h3, h4, h5, h6, h7]
  obtain ⟨r, g1, g2⟩ := run_equalIn_deep 9998 2 25 hk w 3 3 _ _ l l (by kernel_rfl) (by kernel_rfl) hl hl
  rw [g2.2 rfl] at g1
  exact g1

end Go.Proofs.Ytkfphmhnaelflaa.Nv
