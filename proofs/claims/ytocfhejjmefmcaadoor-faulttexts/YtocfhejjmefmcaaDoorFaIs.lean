/-
  errors.Is of an error, at a number. No condition.
-/
import Derived.Test.YtocfhejjmefmcaaDoorFaIsFacts
import Derived.Test.YtocfhejjmefmcaaDoorFaClone
import Derived.Test.YtocfhejjmefmcaaDoorFaAll
namespace Go.Proofs.YtocfhejjmefmcaaDoor.Fa
open Go.ChangeShapes Go.WideShapes Go.ChangeAt Go.RowKit Go.Proofs.Fa

/-- Is an error the number k, or did it come of it? -/
def isN (m k : Int) : List Layer → Bool
  | [] => m == k
  | y :: r => if y.join = true then isN m k r || y.k == k else isN m k r

/-- Where errors.is stands. -/
def IsAt (w : World) (m k : Int) (l l' : List Layer) (v : Value) (wr : World) : Prop := ErrAt w (some (some m)) l' v ∧ l'.length ≤ l.length ∧ isN m k l' = isN m k l ∧ Below w.heap.size w wr
noncomputable def muIs (w : World) (m k : Int) (l : List Layer) (v : Value) (wr : World) : Nat := least fun n => ∃ l', IsAt w m k l l' v wr ∧ n = l'.length

set_option maxRecDepth 100000
set_option maxHeartbeats 4000000
theorem is_base (m k : Int) (w : World) :
    Calls Tryd.prog 35 #[.iface 36 (.int .i64 m), .iface 36 (.int .i64 k), .bool true] w fun e w' => e = .returned (.bool (m == k)) ∧ w' = w := by
  have h0 := eq_Errno m k
  have h1 := hasIs_Errno (.int .i64 m)
  have h2 := hasUn_Errno (.int .i64 m)
  have h3 := hasUs_Errno (.int .i64 m)
  cases hq : (m == k) with
  | true =>
    simp only [hq] at h0
    go_enter Tryd.func35, Tryd.ntmps35
    go_wp2
    refine wp_loop_rounds 1 ?_
    rw [rounds_succ]
    go_wp2
    go_ret
    exact ⟨rfl, rfl⟩
  | false =>
    simp only [hq] at h0
    go_enter Tryd.func35, Tryd.ntmps35
    go_wp2
    refine wp_loop_rounds 1 ?_
    rw [rounds_succ]
    go_wp2
    go_ret
    exact ⟨rfl, rfl⟩

/-- An error of one fault round a number, at a number. -/
theorem is_one (g : Nat) (op : ByteArray) (at_ m k : Int) (w : World) (h : w.heap[g]? = some (.cells #[.string op, .int .i64 at_, .iface 36 (.int .i64 m)] 46 (0, 0))) :
    Calls Tryd.prog 35 #[.iface 44 (.pointer (some ⟨g, 0, none⟩)), .iface 36 (.int .i64 k), .bool true] w fun e w' => e = .returned (.bool (m == k)) ∧ w' = w := by
  have H : Hid (w.heap[g]? = some (.cells #[.string op, .int .i64 at_, .iface 36 (.int .i64 m)] 46 (0, 0))) := h
  clear h
  have h0 := eq_Errno m k
  have h1 := hasIs_Errno (.int .i64 m)
  have h2 := hasUn_Errno (.int .i64 m)
  have h3 := hasUs_Errno (.int .i64 m)
  have f0 := eq_Fault_Errno (.pointer (some ⟨g, 0, none⟩)) (.int .i64 k)
  have f1 := hasIs_Fault (.pointer (some ⟨g, 0, none⟩))
  have f2 := hasUn_Fault (.pointer (some ⟨g, 0, none⟩))
  have f3 := mIs (.pointer (some ⟨g, 0, none⟩))
  have f4 := mUn (.pointer (some ⟨g, 0, none⟩))
  cases hq : (m == k) with
  | true =>
    simp only [hq] at h0
    go_enter Tryd.func35, Tryd.ntmps35
    go_wp2
    refine wp_loop_rounds 2 ?_
    rw [rounds_succ]
    go_wp2_with fail
    refine (is_errno g k _).mono ?_
    rintro e w1 ⟨rfl, rfl⟩
    go_wp2_with fail
    refine (unwrap_some g op at_ _ _ H.out).mono ?_
    rintro e w2 ⟨rfl, rfl⟩
    go_wp2_with fail
    rw [rounds_succ]
    go_wp2
    go_ret
    exact ⟨rfl, rfl⟩
  | false =>
    simp only [hq] at h0
    go_enter Tryd.func35, Tryd.ntmps35
    go_wp2
    refine wp_loop_rounds 2 ?_
    rw [rounds_succ]
    go_wp2_with fail
    refine (is_errno g k _).mono ?_
    rintro e w1 ⟨rfl, rfl⟩
    go_wp2_with fail
    refine (unwrap_some g op at_ _ _ H.out).mono ?_
    rintro e w2 ⟨rfl, rfl⟩
    go_wp2_with fail
    rw [rounds_succ]
    go_wp2
    go_ret
    exact ⟨rfl, rfl⟩

end Go.Proofs.YtocfhejjmefmcaaDoor.Fa
