/-
  What errors.Is asks of an error's types. No condition.
-/
import Derived.Test.YtocfhejjmefmcaaDoorFaSmall
import Derived.Lib.IfaceEq
import Derived.LaidEql
import Derived.Stop.Asserts
namespace Go.Proofs.YtocfhejjmefmcaaDoor.Fa
open Go.ChangeShapes Go.WideShapes Go.ChangeAt Go.RowKit Go.Proofs.Fa Go.Extern.Stop Go.Stop Go.Extern

theorem hasIs_Fault (v : Value) (xT : TypeId) (w : World) : (Instr.typeAssert (.iface 44 v) xT 108 true).run Tryd.prog w = .ok (.tuple #[.iface 44 v, .bool true]) w := run_typeAssert_hasB Tryd.underlying108 (by kernel_rfl) v xT w
theorem hasIs_Many (v : Value) (xT : TypeId) (w : World) : (Instr.typeAssert (.iface 56 v) xT 108 true).run Tryd.prog w = .ok (.tuple #[.nilIface, .bool false]) w := run_typeAssert_lacksB Tryd.underlying108 (by kernel_rfl) (by kernel_rfl) v xT w
theorem hasIs_Errno (v : Value) (xT : TypeId) (w : World) : (Instr.typeAssert (.iface 36 v) xT 108 true).run Tryd.prog w = .ok (.tuple #[.nilIface, .bool false]) w := run_typeAssert_lacksB Tryd.underlying108 (by kernel_rfl) (by kernel_rfl) v xT w
theorem hasUn_Fault (v : Value) (xT : TypeId) (w : World) : (Instr.typeAssert (.iface 44 v) xT 110 true).run Tryd.prog w = .ok (.tuple #[.iface 44 v, .bool true]) w := run_typeAssert_hasB Tryd.underlying110 (by kernel_rfl) v xT w
theorem hasUn_Many (v : Value) (xT : TypeId) (w : World) : (Instr.typeAssert (.iface 56 v) xT 110 true).run Tryd.prog w = .ok (.tuple #[.nilIface, .bool false]) w := run_typeAssert_lacksB Tryd.underlying110 (by kernel_rfl) (by kernel_rfl) v xT w
theorem hasUn_Errno (v : Value) (xT : TypeId) (w : World) : (Instr.typeAssert (.iface 36 v) xT 110 true).run Tryd.prog w = .ok (.tuple #[.nilIface, .bool false]) w := run_typeAssert_lacksB Tryd.underlying110 (by kernel_rfl) (by kernel_rfl) v xT w
theorem hasUs_Fault (v : Value) (xT : TypeId) (w : World) : (Instr.typeAssert (.iface 44 v) xT 111 true).run Tryd.prog w = .ok (.tuple #[.nilIface, .bool false]) w := run_typeAssert_lacksB Tryd.underlying111 (by kernel_rfl) (by kernel_rfl) v xT w
theorem hasUs_Many (v : Value) (xT : TypeId) (w : World) : (Instr.typeAssert (.iface 56 v) xT 111 true).run Tryd.prog w = .ok (.tuple #[.iface 56 v, .bool true]) w := run_typeAssert_hasB Tryd.underlying111 (by kernel_rfl) v xT w
theorem hasUs_Errno (v : Value) (xT : TypeId) (w : World) : (Instr.typeAssert (.iface 36 v) xT 111 true).run Tryd.prog w = .ok (.tuple #[.nilIface, .bool false]) w := run_typeAssert_lacksB Tryd.underlying111 (by kernel_rfl) (by kernel_rfl) v xT w
theorem eq_Fault_Errno (u v : Value) (w : World) : (binOp .eql 25 (.iface 44 u) (.iface 36 v)).run Tryd.prog w = .ok (.bool false) w := run_eql_iface_types 44 36 u v Tryd.underlying25 (by decide) w
theorem eq_Many_Fault (u v : Value) (w : World) : (binOp .eql 25 (.iface 56 u) (.iface 44 v)).run Tryd.prog w = .ok (.bool false) w := run_eql_iface_types 56 44 u v Tryd.underlying25 (by decide) w
theorem eq_Many_Errno (u v : Value) (w : World) : (binOp .eql 25 (.iface 56 u) (.iface 36 v)).run Tryd.prog w = .ok (.bool false) w := run_eql_iface_types 56 36 u v Tryd.underlying25 (by decide) w
theorem eq_Errno_Fault (u v : Value) (w : World) : (binOp .eql 25 (.iface 36 u) (.iface 44 v)).run Tryd.prog w = .ok (.bool false) w := run_eql_iface_types 36 44 u v Tryd.underlying25 (by decide) w
theorem eq_Errno (m n : Int) (w : World) : (binOp .eql 25 (.iface 36 (.int .i64 m)) (.iface 36 (.int .i64 n))).run Tryd.prog w = .ok (.bool (m == n)) w := Lib.run_eql_iface_int w m n Tryd.underlying25 (by kernel_rfl) Tryd.underlying36
theorem mIs (v : Value) (w : World) : (Go.method 264 44 v "Is").run Tryd.prog w = .ok (25, v) w := by kernel_rfl
theorem mUn (v : Value) (w : World) : (Go.method 264 44 v "Unwrap").run Tryd.prog w = .ok (24, v) w := by kernel_rfl
theorem mUs (v : Value) (w : World) : (Go.method 264 56 v "Unwrap").run Tryd.prog w = .ok (21, v) w := by kernel_rfl
theorem info_fp : (Tryd.prog.info? 44).map (·.comparable) = some true := by kernel_rfl
theorem info_f : (Tryd.prog.info? 46).map (·.size) = some 3 := by kernel_rfl
theorem eq_Fault (a b : Nat) (ca cb : Array Value) (w : World) (hne : a ≠ b) (ha : w.heap[a]? = some (.cells ca 46 (0, 0))) (hb : w.heap[b]? = some (.cells cb 46 (0, 0))) :
    (binOp .eql 25 (.iface 44 (.pointer (some ⟨a, 0, none⟩))) (.iface 44 (.pointer (some ⟨b, 0, none⟩)))).run Tryd.prog w = .ok (.bool false) w := by
  obtain ⟨i, hi, hic⟩ := Option.map_eq_some_iff.1 info_fp
  obtain ⟨j, hj, hjs⟩ := Option.map_eq_some_iff.1 info_f
  exact run_eql_iface_ptr_other w Tryd.underlying25 Tryd.underlying44 hi hic hj (by rw [hjs]; decide) (by intro h; exact hne (congrArg Addr.block h)) ha hb

end Go.Proofs.YtocfhejjmefmcaaDoor.Fa
