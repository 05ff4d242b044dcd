/-
  string(make([]byte, m)): m bytes 0. Condition: m is from 0 to 1000000.
-/
import Derived.Test.YtncjlcgndhodmabDoorRows
import Derived.WalkKit
import Derived.ProofKit
import Derived.OpenShut
import Derived.Below
import Derived.Laws.BytesArg
import Derived.Laws.MakeOwn
namespace Go.Proofs.YtncjlcgndhodmabDoor.Zs
open Go.ChangeShapes Go.WideShapes Go.ChangeAt Go.RowKit

theorem infoU8 : (Tryd.prog.info? 5).map (fun i => (i.zero, i.size, i.bytes)) = some (some (.int .u8 0), 1, 1) := by kernel_rfl

def zstr (m : Nat) : ByteArray := ⟨(List.replicate m 0).toArray⟩
theorem zstr_size (m : Nat) : (zstr m).size = m := by simp [zstr, ByteArray.size]

theorem make_run (m : Int) (h0 : 0 ≤ m) (h1 : m ≤ 1000000) (W : World) :
    Sem.run Tryd.prog (Instr.makeSlice 48 (.int .i64 m) (.int .i64 m)) W = .ok (.slice (some ⟨W.heap.size, 0, none⟩) m.toNat m.toNat) (W.alloc (.cells (madeCells (Value.int .u8 0).cells m.toNat) 5)) := by
  obtain ⟨i0, hi, hi2⟩ := Option.map_eq_some_iff.1 infoU8
  have hz0 : i0.zero = some (.int .u8 0) := by have := congrArg Prod.fst hi2; exact this
  have hz1 : i0.size = 1 := congrArg (fun x => x.2.1) hi2
  have hz2 : i0.bytes = 1 := congrArg (fun x => x.2.2) hi2
  have := run_makeSlice (P := Tryd.prog) W 48 5 i0 (.int .u8 0) Tryd.underlying48 hi hz0 .i64 .i64 m m h0 (Int.le_refl _) (by rw [hz1]; omega) (by rw [hz2]; omega) (by omega)
  rw [hz1, Nat.mul_one] at this
  exact this

theorem conv_made (m : Nat) (W : World) :
    Sem.run Tryd.prog (convert 48 9 (.slice (some ⟨W.heap.size, 0, none⟩) m m)) (W.alloc (.cells (madeCells (Value.int .u8 0).cells m) 5)) = .ok (.string (zstr m)) (W.alloc (.cells (madeCells (Value.int .u8 0).cells m) 5)) := by
  have := run_convert_bytes_arg (P := Tryd.prog) (W.alloc (.cells (madeCells (Value.int .u8 0).cells m) 5)) 48 5 Tryd.underlying48 Tryd.underlying5 W.heap.size 0 m m (List.replicate m 0) (by simp) (by
    intro i hi
    rw [World.cell?_alloc_new]
    have hc : (Value.int IntKind.u8 0).cells = #[Value.int .u8 0] := rfl
    simp [madeCells, hi, hc, Nat.mod_one]) 9 Tryd.underlying9
  rw [this]
  have e : strOfNums (List.replicate m 0) = zstr m := by
    simp [strOfNums, zstr]
  rw [e]

theorem conv_made' (W : World) (m : Nat) :
    Sem.run Tryd.prog (convert 48 9 (.slice (some ⟨W.heap.size, 0, none⟩) m m)) (W.alloc (.cells (madeCells #[Value.int .u8 0] m) 5)).drew = .ok (.string (zstr m)) (W.alloc (.cells (madeCells #[Value.int .u8 0] m) 5)).drew :=
  conv_made m W.drew

theorem conv_made0 (W : World) (m : Nat) :
    Sem.run Tryd.prog (convert 48 9 (.slice (some ⟨W.heap.size, 0, none⟩) m m)) (W.alloc (.cells (madeCells #[Value.int .u8 0] m) 5)) = .ok (.string (zstr m)) (W.alloc (.cells (madeCells #[Value.int .u8 0] m) 5)) :=
  conv_made m W

theorem zstr_data (m : Nat) : (zstr m).data.toList = List.replicate m 0 := rfl

end Go.Proofs.YtncjlcgndhodmabDoor.Zs
