/-
  errors.Is at a number, and at a kind of faults, of one fault. No condition.
-/
import Derived.Test.YtocfhejjmefmcaaDoorFaIs
import Derived.Test.YtocfhejjmefmcaaDoorFaKind
import Derived.Test.YtocfhejjmefmcaaDoorLeAs
namespace Go.Proofs.YtocfhejjmefmcaaDoor.Fa
open Go.ChangeShapes Go.WideShapes Go.ChangeAt Go.RowKit Go.Proofs.Fa Go.Extern Go.Stop

theorem tOfF (v : Value) (w : World) : (ReflectliteType.typeOf #[.iface 44 v]).run Tryd.prog w = .ok (.iface 106 (.agg #[.pointer (some ⟨5, 44, none⟩)])) w := by kernel_rfl
theorem mComp (h : Value) (w : World) : (Go.method 264 106 (.agg #[h]) "Comparable").run Tryd.prog w = .ok (90, .agg #[h]) w := by kernel_rfl
theorem compE (w : World) : ((ReflectliteType.method fun t => do Rtype.noPackHeld "Comparable" t; (fun a => Value.bool a.comparable) <$> typeInfo t) #[.agg #[.pointer (some ⟨5, 36, none⟩)]]).run Tryd.prog w = .ok (.bool true) w := by kernel_rfl
theorem compF (w : World) : ((ReflectliteType.method fun t => do Rtype.noPackHeld "Comparable" t; (fun a => Value.bool a.comparable) <$> typeInfo t) #[.agg #[.pointer (some ⟨5, 44, none⟩)]]).run Tryd.prog w = .ok (.bool true) w := by kernel_rfl

set_option maxRecDepth 100000
set_option maxHeartbeats 4000000
/-- errors.Is at a number is errors.is. -/
theorem Is_errno (t : TypeId) (u : Value) (k : Int) (w : World) (b : Bool) (Q : World → Prop) (h : Calls Tryd.prog 35 #[.iface t u, .iface 36 (.int .i64 k), .bool true] w fun e w' => e = .returned (.bool b) ∧ Q w') :
    Calls Tryd.prog 16 #[.iface t u, .iface 36 (.int .i64 k)] w fun e w' => e = .returned (.bool b) ∧ Q w' := by
  have e7 := @run_callFunc_extern Tryd.prog 34 _ ReflectliteType.typeOf Tryd.func34 (by kernel_rfl) (by kernel_rfl) (by kernel_rfl) (by kernel_rfl)
  have e8 := @run_callFunc_extern Tryd.prog 90 _ (ReflectliteType.method fun t => do Rtype.noPackHeld "Comparable" t; pure (.bool (← typeInfo t).comparable)) Tryd.func90 (by kernel_rfl) (by kernel_rfl) (by kernel_rfl) (by kernel_rfl)
  have f1 := Go.Proofs.YtocfhejjmefmcaaDoor.As.tOfE
  have f2 := mComp
  have f3 := compE
  have H : Hid (Calls Tryd.prog 35 #[.iface t u, .iface 36 (.int .i64 k), .bool true] w fun e w' => e = .returned (.bool b) ∧ Q w') := h
  clear h
  go_enter Tryd.func16, Tryd.ntmps16
  go_wp2_with fail
  refine H.out.mono ?_
  rintro e w1 ⟨rfl, hp⟩
  have HP : Hid (Q w1) := hp
  clear hp
  go_wp2
  go_ret
  exact ⟨rfl, HP.out⟩

theorem Is_fault (t : TypeId) (u v : Value) (w : World) (b : Bool) (Q : World → Prop) (h : Calls Tryd.prog 35 #[.iface t u, .iface 44 v, .bool true] w fun e w' => e = .returned (.bool b) ∧ Q w') :
    Calls Tryd.prog 16 #[.iface t u, .iface 44 v] w fun e w' => e = .returned (.bool b) ∧ Q w' := by
  have e7 := @run_callFunc_extern Tryd.prog 34 _ ReflectliteType.typeOf Tryd.func34 (by kernel_rfl) (by kernel_rfl) (by kernel_rfl) (by kernel_rfl)
  have e8 := @run_callFunc_extern Tryd.prog 90 _ (ReflectliteType.method fun t => do Rtype.noPackHeld "Comparable" t; pure (.bool (← typeInfo t).comparable)) Tryd.func90 (by kernel_rfl) (by kernel_rfl) (by kernel_rfl) (by kernel_rfl)
  have f1 := tOfF
  have f2 := mComp
  have f3 := compF
  have H : Hid (Calls Tryd.prog 35 #[.iface t u, .iface 44 v, .bool true] w fun e w' => e = .returned (.bool b) ∧ Q w') := h
  clear h
  go_enter Tryd.func16, Tryd.ntmps16
  go_wp2_with fail
  refine H.out.mono ?_
  rintro e w1 ⟨rfl, hp⟩
  have HP : Hid (Q w1) := hp
  clear hp
  go_wp2
  go_ret
  exact ⟨rfl, HP.out⟩

/-- A fault that is one of a kind. -/
theorem is_kind_one (g g' : Nat) (op fop : ByteArray) (n fn : Int) (v : Value) (w : World) (hne : g ≠ g') (h : w.heap[g]? = some (.cells #[.string fop, .int .i64 fn, v] 46 (0, 0))) (h' : w.heap[g']? = some (.cells #[.string op, .int .i64 n, .nilIface] 46 (0, 0))) (hk : kindOf op n fop fn = true) :
    Calls Tryd.prog 35 #[.iface 44 (.pointer (some ⟨g, 0, none⟩)), .iface 44 (.pointer (some ⟨g', 0, none⟩)), .bool true] w fun e w' => e = .returned (.bool true) ∧ w' = w.drew := by
  have f0 := eq_Fault g g' _ _ w hne h h'
  have f1 := hasIs_Fault (.pointer (some ⟨g, 0, none⟩))
  have f3 := mIs (.pointer (some ⟨g, 0, none⟩))
  have H : Hid (w.heap[g]? = some (.cells #[.string fop, .int .i64 fn, v] 46 (0, 0))) := h
  have H' : Hid (w.heap[g']? = some (.cells #[.string op, .int .i64 n, .nilIface] 46 (0, 0))) := h'
  have HK : Hid (kindOf op n fop fn = true) := hk
  clear h h' hk
  go_enter Tryd.func35, Tryd.ntmps35
  go_wp2
  refine wp_loop_rounds 1 ?_
  rw [rounds_succ]
  go_wp2_with fail
  refine (is_kind g g' op fop n fn v _ H.out H'.out).mono ?_
  rintro e w1 ⟨rfl, rfl⟩
  rw [HK.out]
  go_wp2
  go_ret
  exact ⟨rfl, rfl⟩

end Go.Proofs.YtocfhejjmefmcaaDoor.Fa
