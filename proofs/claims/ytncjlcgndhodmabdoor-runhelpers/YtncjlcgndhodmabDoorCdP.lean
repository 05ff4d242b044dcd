/-
  Layer 17's instructions, as numbers: which there may be. No condition. Nothing of the program.
-/
import Derived.WalkKit
namespace Go.Proofs.YtncjlcgndhodmabDoor.Cd

/-- An instruction. -/
structure In4 where
  op : Int
  d : Int
  s : Int
  imm : Int
deriving DecidableEq

/-- Are the registers that its operation doesn't have 0? -/
def lackF (op d s : Int) : Bool :=
  if op = 12 ∨ op = 17 ∨ op = 18 ∨ op = 19 ∨ op = 20 then (d == 0) && (s == 0) else if op = 0 ∨ op = 4 ∨ op = 5 ∨ op = 6 then s == 0 else true
/-- From which number to which one its Imm is. -/
def immF (op : Int) : Int × Int :=
  if op = 1 ∨ op = 2 ∨ op = 3 ∨ op = 18 ∨ op = 20 then (0, 0) else if op = 6 then (0, 2147483647) else if op = 17 then (1, 64) else if op = 19 then (1, 3) else if 12 ≤ op ∧ op ≤ 16 then (0, 127) else (-2147483648, 2147483647)
/-- May there be such an instruction? -/
def RightP (x : In4) : Prop := (0 ≤ x.op ∧ x.op ≤ 20) ∧ (0 ≤ x.d ∧ x.d ≤ 7) ∧ (0 ≤ x.s ∧ x.s ≤ 7) ∧ lackF x.op x.d x.s = true ∧ (immF x.op).1 ≤ x.imm ∧ x.imm ≤ (immF x.op).2
instance (x : In4) : Decidable (RightP x) := by unfold RightP; infer_instance
theorem imm_lo (op : Int) : -2147483648 ≤ (immF op).1 := by unfold immF; (repeat' split) <;> decide
theorem imm_hi (op : Int) : (immF op).2 ≤ 2147483647 := by unfold immF; (repeat' split) <;> decide
theorem RightP.imm {x : In4} (h : RightP x) : -2147483648 ≤ x.imm ∧ x.imm ≤ 2147483647 :=
  ⟨Int.le_trans (imm_lo x.op) h.2.2.2.2.1, Int.le_trans h.2.2.2.2.2 (imm_hi x.op)⟩

end Go.Proofs.YtncjlcgndhodmabDoor.Cd
