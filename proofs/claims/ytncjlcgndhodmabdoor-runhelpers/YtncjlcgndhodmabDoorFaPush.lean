/-
  What lies right below an error, and how it is put to those that wait. No condition.
-/
import Derived.Test.YtncjlcgndhodmabDoorFaM
import Derived.Test.YtncjlcgndhodmabDoorFaRange
import Derived.Handy
import Derived.LoopN
import Derived.WalkSmall
import Derived.OwnWalk
namespace Go.Proofs.YtncjlcgndhodmabDoor.Fa
open Go.ChangeShapes Go.WideShapes Go.ChangeAt Go.RowKit Go.Proofs.Fa

/-- Blocks of parts: those that the walk down an error has, and none else. -/
def M (o : Obj) : Prop := o.isCells = false ∨ ∃ c m, o = .cells c 84 m
theorem M_other (o : Obj) (h : o.isCells = false) : M o := .inl h
/-- Blocks of parts alone. -/
def MC (o : Obj) : Prop := M o ∧ o.isCells = true
theorem MC_part (c : Array Value) (m : Nat × Nat) : MC (.cells c 84 m) := ⟨.inr ⟨c, m, rfl⟩, rfl⟩

/-- From w to w' only blocks of parts from B on were turned, and new ones laid. -/
def Parts (B : Nat) (w w' : World) : Prop := ∀ I : World → Prop, OwnM MC B (fun (_ : Unit) W => I W) → I w → I w'
theorem Parts.refl (B : Nat) (w : World) : Parts B w w := fun _ _ h => h
theorem Parts.trans {B : Nat} {a b c : World} (h : Parts B a b) (k : Parts B b c) : Parts B a c := fun I hI hi => k I hI (h I hI hi)
theorem Parts.alloc {B : Nat} {w w' : World} (h : Parts B w w') (o : Obj) : Parts B w (w'.alloc o) := fun I hI hi => OwnM.alloc (s := ()) hI o (h I hI hi)
theorem Parts.drew {B : Nat} {w w' : World} (h : Parts B w w') : Parts B w w'.drew := fun I hI hi => hI () w' _ none (h I hI hi) ⟨rfl, rfl, rfl, Nat.le_refl _, fun _ _ _ => rfl⟩ (fun r e => by cases e)
theorem Parts.below {B m : Nat} {w w' : World} (h : Parts B w w') (hm : m ≤ w.heap.size) (hB : m ≤ B) : Below m w w' := h (Below m w) (ownM_below hm hB) (Below.refl m w)
theorem Parts.size {B : Nat} {w w' : World} (h : Parts B w w') : w.heap.size ≤ w'.heap.size := h (fun W => w.heap.size ≤ W.heap.size) (fun _ _ _ _ hs hg _ => Nat.le_trans hs hg.size) (Nat.le_refl _)
theorem Parts.own {B : Nat} {w w' : World} {v : Value} {n : Nat} {xs : List Value} (hr : w.ownsRow B 84 2 v n xs) (hg : w.grownBy w' v.ownBlock) : Parts B w w' := fun I hI hi => by
  refine hI () w w' _ hi hg ?_
  intro r e
  rcases hr.2 with ⟨rfl, _⟩ | ⟨g, cap, cur, rfl, hb, hh, _⟩
  · cases e
  · cases e
    exact ⟨hb, _, hh, MC_part _ _⟩

/-- A part that waits: what stands ahead of it, and the error. -/
structure Item where
  ahead : ByteArray
  b : Option (Option Int)
  l : List Layer
  v : Value
abbrev Key := ByteArray × Option (Option Int) × List Layer
def Item.key (x : Item) : Key := (x.ahead, x.b, x.l)
def Item.At (w : World) (x : Item) : Prop := ErrAt w x.b x.l x.v
def Item.cells (x : Item) : List Value := [.string x.ahead, x.v]
/-- The cells of the parts. -/
def row : List Item → List Value
  | [] => []
  | x :: r => .string x.ahead :: x.v :: row r
theorem row_append (a b : List Item) : row (a ++ b) = row a ++ row b := by induction a with
  | nil => rfl
  | cons x a ih => simp [row, ih]
theorem row_length (a : List Item) : (row a).length = a.length * 2 := by induction a with
  | nil => rfl
  | cons x a ih => simp [row, ih]; omega

/-- '; '. -/
def sep : ByteArray := ⟨#[59, 32]⟩
/-- What is put to those that wait for an error. -/
def pushes (b : Option (Option Int)) : List Layer → List Key
  | [] => []
  | y :: r => (if y.join = true then [(sep, some (some y.k), [])] else []) ++ [(⟨#[]⟩, b, r)]
/-- An error and what lies below it, in order. -/
def flat : List Layer → ByteArray → Option (Option Int) → List Key
  | [], a, b => [(a, b, [])]
  | y :: r, a, b => (a, b, y :: r) :: (flat r ⟨#[]⟩ b ++ if y.join = true then [(sep, some (some y.k), [])] else [])

/-- A value of an interface. -/
def IsI (v : Value) : Prop := v = .nilIface ∨ ∃ t u, v = .iface t u
theorem IsI.one {v : Value} (h : IsI v) : v.oneCell' = true := by
  rcases h with rfl | ⟨t, u, rfl⟩ <;> rfl
theorem ErrAt.isI {w : World} {b : Option (Option Int)} : ∀ {l : List Layer} {v : Value}, ErrAt w b l v → IsI v
  | [], v, h => by
    subst h
    rcases b with _ | _ | n
    · exact .inl rfl
    · exact .inr ⟨_, _, rfl⟩
    · exact .inr ⟨_, _, rfl⟩
  | y :: r, v, h => by
    rcases h with ⟨_, g, cap, v', rfl, _⟩ | ⟨_, g, v', rfl, _⟩ <;> exact .inr ⟨_, _, rfl⟩

set_option maxRecDepth 100000
set_option maxHeartbeats 400000

theorem asFault (v : Value) (w : World) : (Instr.typeAssert (.iface 94 v) 36 94 true).run Tryd.prog w = .ok (.tuple #[v, .bool true]) w := by
  simp [Instr.typeAssert, run_underlying Tryd.underlying94, go_sem, Result.andThen]
theorem asFault_nil (w : World) : (Instr.typeAssert .nilIface 36 94 true).run Tryd.prog w = .ok (.tuple #[.pointer none, .bool false]) w := by
  simp [Instr.typeAssert, run_underlying Tryd.underlying94, Tryd.zeroValue94, go_sem, Result.andThen]
theorem asFault_Many (v : Value) (w : World) : (Instr.typeAssert (.iface 97 v) 36 94 true).run Tryd.prog w = .ok (.tuple #[.pointer none, .bool false]) w := by
  simp [Instr.typeAssert, run_underlying Tryd.underlying94, Tryd.zeroValue94, go_sem, Result.andThen]
theorem asFault_Errno (v : Value) (w : World) : (Instr.typeAssert (.iface 49 v) 36 94 true).run Tryd.prog w = .ok (.tuple #[.pointer none, .bool false]) w := by
  simp [Instr.typeAssert, run_underlying Tryd.underlying94, Tryd.zeroValue94, go_sem, Result.andThen]
theorem asMany (v : Value) (w : World) : (Instr.typeAssert (.iface 97 v) 36 97 true).run Tryd.prog w = .ok (.tuple #[v, .bool true]) w := by
  simp [Instr.typeAssert, run_underlying Tryd.underlying97, go_sem, Result.andThen]
theorem asMany_nil (w : World) : (Instr.typeAssert .nilIface 36 97 true).run Tryd.prog w = .ok (.tuple #[.slice none 0 0, .bool false]) w := by
  simp [Instr.typeAssert, run_underlying Tryd.underlying97, Tryd.zeroValue97, go_sem, Result.andThen]
theorem asMany_Fault (v : Value) (w : World) : (Instr.typeAssert (.iface 94 v) 36 97 true).run Tryd.prog w = .ok (.tuple #[.slice none 0 0, .bool false]) w := by
  simp [Instr.typeAssert, run_underlying Tryd.underlying97, Tryd.zeroValue97, go_sem, Result.andThen]
theorem asMany_Errno (v : Value) (w : World) : (Instr.typeAssert (.iface 49 v) 36 97 true).run Tryd.prog w = .ok (.tuple #[.slice none 0 0, .bool false]) w := by
  simp [Instr.typeAssert, run_underlying Tryd.underlying97, Tryd.zeroValue97, go_sem, Result.andThen]
theorem asErrno (v : Value) (w : World) : (Instr.typeAssert (.iface 49 v) 36 49 true).run Tryd.prog w = .ok (.tuple #[v, .bool true]) w := by
  simp [Instr.typeAssert, run_underlying Tryd.underlying49, go_sem, Result.andThen]
theorem asErrno_nil (w : World) : (Instr.typeAssert .nilIface 36 49 true).run Tryd.prog w = .ok (.tuple #[.int .i64 0, .bool false]) w := by
  simp [Instr.typeAssert, run_underlying Tryd.underlying49, Tryd.zeroValue49, go_sem, Result.andThen]
theorem asErrno_Fault (v : Value) (w : World) : (Instr.typeAssert (.iface 94 v) 36 49 true).run Tryd.prog w = .ok (.tuple #[.int .i64 0, .bool false]) w := by
  simp [Instr.typeAssert, run_underlying Tryd.underlying49, Tryd.zeroValue49, go_sem, Result.andThen]
theorem asErrno_Many (v : Value) (w : World) : (Instr.typeAssert (.iface 97 v) 36 49 true).run Tryd.prog w = .ok (.tuple #[.int .i64 0, .bool false]) w := by
  simp [Instr.typeAssert, run_underlying Tryd.underlying49, Tryd.zeroValue49, go_sem, Result.andThen]

theorem below_none (w : World) : Calls Tryd.prog 41 #[.nilIface] w fun e w' => e = .returned (.tuple #[.slice none 0 0, .bool false]) ∧ w' = w := by
  have t0 := asFault_nil
  have t1 := asMany_nil
  have t2 := asErrno_nil
  go_enter Tryd.func41, Tryd.ntmps41
  go_wp2
  go_ret2
  exact ⟨rfl, rfl⟩
theorem below_nil (w : World) : Calls Tryd.prog 41 #[.iface 94 (.pointer none)] w fun e w' => e = .returned (.tuple #[.slice none 0 0, .bool true]) ∧ w' = w := by
  have t0 := asFault
  go_enter Tryd.func41, Tryd.ntmps41
  go_wp2
  go_ret2
  exact ⟨rfl, rfl⟩
theorem below_errno (n : Int) (w : World) : Calls Tryd.prog 41 #[.iface 49 (.int .i64 n)] w fun e w' => e = .returned (.tuple #[.slice none 0 0, .bool true]) ∧ w' = w := by
  have t0 := asFault_Errno
  have t1 := asMany_Errno
  have t2 := asErrno
  go_enter Tryd.func41, Tryd.ntmps41
  go_wp2
  go_ret2
  exact ⟨rfl, rfl⟩
theorem below_many (v : Value) (w : World) : Calls Tryd.prog 41 #[.iface 97 v] w fun e w' => e = .returned (.tuple #[v, .bool true]) ∧ w' = w := by
  have t0 := asFault_Many
  have t1 := asMany
  go_enter Tryd.func41, Tryd.ntmps41
  go_wp2
  go_ret2
  exact ⟨rfl, rfl⟩
theorem below_fault (g : Nat) (op : ByteArray) (at_ : Int) (v : Value) (hv : IsI v) (w : World) (h : w.heap[g]? = some (.cells #[.string op, .int .i64 at_, v] 96 (0, 0))) :
    Calls Tryd.prog 41 #[.iface 94 (.pointer (some ⟨g, 0, none⟩))] w fun e w' => e = .returned (.tuple #[.slice (some ⟨w.heap.size, 0, none⟩) 1 1, .bool true]) ∧ w' = w.alloc (.cells #[v] 36) := by
  have hc := cell_of_heap h 2 v rfl
  clear h
  rcases hv with rfl | ⟨t, u, rfl⟩
  all_goals
    have t0 := asFault
    go_enter Tryd.func41, Tryd.ntmps41
    go_wp2
    go_ret2
    exact ⟨rfl, rfl⟩

end Go.Proofs.YtncjlcgndhodmabDoor.Fa
