/-
  Wrap, Unwrap and Is of a fault. No condition.
-/
import Derived.Test.YtocfhejjmefmcaaDoorFaPush
namespace Go.Proofs.YtocfhejjmefmcaaDoor.Fa
open Go.ChangeShapes Go.WideShapes Go.ChangeAt Go.RowKit Go.Proofs.Fa

set_option maxRecDepth 100000
set_option maxHeartbeats 2000000
theorem wrap_nil (op : ByteArray) (n : Int) (w : World) : Calls Tryd.prog 22 #[.string op, .int .i64 n, .nilIface] w fun e w' => e = .returned .nilIface ∧ w' = w := by
  go_enter Tryd.func22, Tryd.ntmps22
  go_wp2
  go_ret
  exact ⟨rfl, rfl⟩
theorem wrap_some (op : ByteArray) (n : Int) (t : TypeId) (u : Value) (w : World) : Calls Tryd.prog 22 #[.string op, .int .i64 n, .iface t u] w fun e w' => e = .returned (.iface 44 (.pointer (some ⟨w.heap.size, 0, none⟩))) ∧ w' = w.alloc (.cells #[.string op, .int .i64 n, .iface t u] 46) := by
  go_enter Tryd.func22, Tryd.ntmps22
  go_wp2
  go_ret
  exact ⟨rfl, rfl⟩
theorem asFault_fault (v : Value) (w : World) : Calls Tryd.prog 29 #[.iface 44 v] w fun e w' => e = .returned (.tuple #[v, .bool true]) ∧ w' = w := by
  have t0 := asFault
  go_enter Tryd.func29, Tryd.ntmps29
  go_wp2
  go_ret2
  exact ⟨rfl, rfl⟩
theorem asFault_errno (n : Int) (w : World) : Calls Tryd.prog 29 #[.iface 36 (.int .i64 n)] w fun e w' => e = .returned (.tuple #[.pointer none, .bool false]) ∧ w' = w := by
  have t0 := asFault_Errno
  go_enter Tryd.func29, Tryd.ntmps29
  go_wp2
  go_ret2
  exact ⟨rfl, rfl⟩
theorem asFault_many (v : Value) (w : World) : Calls Tryd.prog 29 #[.iface 56 v] w fun e w' => e = .returned (.tuple #[.pointer none, .bool false]) ∧ w' = w := by
  have t0 := asFault_Many
  go_enter Tryd.func29, Tryd.ntmps29
  go_wp2
  go_ret2
  exact ⟨rfl, rfl⟩
theorem asFault_none (w : World) : Calls Tryd.prog 29 #[.nilIface] w fun e w' => e = .returned (.tuple #[.pointer none, .bool false]) ∧ w' = w := by
  have t0 := asFault_nil
  go_enter Tryd.func29, Tryd.ntmps29
  go_wp2
  go_ret2
  exact ⟨rfl, rfl⟩
theorem unwrap_nil (w : World) : Calls Tryd.prog 24 #[.pointer none] w fun e w' => e = .returned .nilIface ∧ w' = w := by
  go_enter Tryd.func24, Tryd.ntmps24
  go_wp2
  go_ret
  exact ⟨rfl, rfl⟩
theorem unwrap_some (g : Nat) (op : ByteArray) (n : Int) (v : Value) (w : World) (h : w.heap[g]? = some (.cells #[.string op, .int .i64 n, v] 46 (0, 0))) :
    Calls Tryd.prog 24 #[.pointer (some ⟨g, 0, none⟩)] w fun e w' => e = .returned v ∧ w' = w := by
  have hc : w.cell? ⟨g, 2, none⟩ = some v := cell_of_heap h 2 v rfl
  clear h
  go_enter Tryd.func24, Tryd.ntmps24
  go_wp2
  go_ret
  exact ⟨rfl, rfl⟩
theorem is_nil (v : Value) (w : World) : Calls Tryd.prog 25 #[.pointer none, .iface 44 v] w fun e w' => e = .returned (.bool false) ∧ w' = w := by
  go_enter Tryd.func25, Tryd.ntmps25
  go_wp2_with (go_at_call 29; refine (asFault_fault _ _).mono ?_; rintro r w1 ⟨rfl, rfl⟩)
  go_ret
  exact ⟨rfl, rfl⟩
theorem is_errno (g : Nat) (n : Int) (w : World) : Calls Tryd.prog 25 #[.pointer (some ⟨g, 0, none⟩), .iface 36 (.int .i64 n)] w fun e w' => e = .returned (.bool false) ∧ w' = w := by
  go_enter Tryd.func25, Tryd.ntmps25
  go_wp2_with (go_at_call 29; refine (asFault_errno _ _).mono ?_; rintro r w1 ⟨rfl, rfl⟩)
  go_ret
  exact ⟨rfl, rfl⟩

end Go.Proofs.YtocfhejjmefmcaaDoor.Fa
