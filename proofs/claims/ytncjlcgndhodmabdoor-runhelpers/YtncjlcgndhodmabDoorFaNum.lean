/-
  The number of an error. No condition.
-/
import Derived.Test.YtncjlcgndhodmabDoorFaIter
import Derived.Test.YtncjlcgndhodmabDoorLeAs
namespace Go.Proofs.YtncjlcgndhodmabDoor.Fa
open Go.ChangeShapes Go.WideShapes Go.ChangeAt Go.RowKit Go.Proofs.Fa Go.Shelf
attribute [local go_sem] Oper.semAt_some

/-- The number that an error itself is. -/
def numK : Option (Option Int) → List Layer → Option Int
  | some (some n), [] => some n
  | _, _ => none
/-- The first number. -/
def numOf : List Key → Option Int
  | [] => none
  | k :: r => match numK k.2.1 k.2.2 with
    | some n => some n
    | none => numOf r
def numV : Option Int → Value
  | some n => .tuple #[.int .i64 n, .bool true]
  | none => .tuple #[.int .i64 0, .bool false]

set_option maxRecDepth 100000
set_option maxHeartbeats 2000000
theorem number_none (w : World) : Calls Tryd.prog 25 #[.nilIface] w fun e w' => e = .returned (.tuple #[.int .i64 0, .bool false]) ∧ w' = w := by
  go_enter Tryd.func25, Tryd.ntmps25
  go_wp2_with (go_at_call 41; refine (below_none _).mono ?_; rintro r w1 ⟨rfl, rfl⟩)
  go_ret2
  exact ⟨rfl, rfl⟩
theorem number_many (g cap : Nat) (w : World) : Calls Tryd.prog 25 #[.iface 97 (.slice (some ⟨g, 0, none⟩) 2 cap)] w fun e w' => e = .returned (.tuple #[.int .i64 0, .bool false]) ∧ w' = w := by
  go_enter Tryd.func25, Tryd.ntmps25
  go_wp2_with (go_at_call 41; refine (below_many _ _).mono ?_; rintro r w1 ⟨rfl, rfl⟩)
  go_ret2
  exact ⟨rfl, rfl⟩
theorem number_fault (g : Nat) (op : ByteArray) (at_ : Int) (v : Value) (hv : IsI v) (w : World) (h : w.heap[g]? = some (.cells #[.string op, .int .i64 at_, v] 96 (0, 0))) :
    Calls Tryd.prog 25 #[.iface 94 (.pointer (some ⟨g, 0, none⟩))] w fun e w' => e = .returned (.tuple #[.int .i64 0, .bool false]) ∧ w' = w.alloc (.cells #[v] 36) := by
  have H : Hid (w.heap[g]? = some (.cells #[.string op, .int .i64 at_, v] 96 (0, 0))) := h
  clear h
  go_enter Tryd.func25, Tryd.ntmps25
  go_wp2_with (go_at_call 41; refine (below_fault _ _ _ _ hv _ H.out).mono ?_; rintro r w1 ⟨rfl, rfl⟩)
  go_ret2
  exact ⟨rfl, rfl⟩
theorem number_errno (n : Int) (w : World) (hE : Go.Proofs.YtncjlcgndhodmabDoor.As.ErrT w) : Calls Tryd.prog 25 #[.iface 49 (.int .i64 n)] w fun e w' => e = .returned (.tuple #[.int .i64 n, .bool true]) ∧ Below w.heap.size w w' := by
  have HE : Hid (Go.Proofs.YtncjlcgndhodmabDoor.As.ErrT w) := hE
  clear hE
  go_enter Tryd.func25, Tryd.ntmps25
  go_wp2_with (go_at_call 41; refine (below_errno _ _).mono ?_; rintro r w1 ⟨rfl, rfl⟩)
  go_wp2_with fail
  refine (Go.Proofs.YtncjlcgndhodmabDoor.As.as_into n w1.heap.size (.int .i64 0) _ (HE.out.below ((Below.refl w1.heap.size w1).alloc (Nat.le_refl _) _) HE.out.lt) (by simp) (by simp)).mono ?_
  rintro r w2 ⟨rfl, hc, hb⟩
  have HB : Hid (Below w1.heap.size w1 w2) := ((Below.refl w1.heap.size w1).alloc (Nat.le_refl _) _).trans hb
  clear hb
  go_wp2
  go_ret2
  exact ⟨rfl, HB.out⟩

theorem number_any (b : Option (Option Int)) (hb : b ≠ some none) (l : List Layer) (v : Value) (w : World) (hx : ErrAt w b l v) (hE : Go.Proofs.YtncjlcgndhodmabDoor.As.ErrT w) :
    Calls Tryd.prog 25 #[v] w fun e w' => e = .returned (numV (numK b l)) ∧ Below w.heap.size w w' := by
  match l, hx with
  | [], hx =>
    have hx' : v = baseV b := hx
    subst hx'
    rcases b with _ | _ | n
    · refine (number_none w).mono ?_; rintro e w' ⟨rfl, rfl⟩; exact ⟨rfl, Below.refl _ _⟩
    · exact absurd rfl hb
    · refine (number_errno n w hE).mono ?_; rintro e w' ⟨rfl, h⟩; exact ⟨rfl, h⟩
  | y :: r, hx =>
    have hn : numK b (y :: r) = none := by rcases b with _ | _ | _ <;> rfl
    rw [hn]
    rcases hx with ⟨hj, g, cap, u, rfl, _⟩ | ⟨hj, g, u, rfl, hh, hr⟩
    · refine (number_many g cap w).mono ?_
      rintro e w' ⟨rfl, rfl⟩
      exact ⟨rfl, Below.refl _ _⟩
    · refine (number_fault g y.op y.pos u hr.isI w hh).mono ?_
      rintro e w' ⟨rfl, rfl⟩
      exact ⟨rfl, (Below.refl _ _).alloc (Nat.le_refl _) _⟩

end Go.Proofs.YtncjlcgndhodmabDoor.Fa
