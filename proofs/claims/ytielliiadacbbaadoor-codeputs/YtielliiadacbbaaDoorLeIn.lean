/-
  The contracts of le.In: what is left behind Num, Text and what End answers. An In lies at block b; no other block is turned.
-/
import Derived.Test.YtielliiadacbbaaDoorLeOut
namespace Go.Proofs.YtielliiadacbbaaDoor.Le
open Go.ChangeShapes Go.WideShapes Go.ChangeAt Go.RowKit Go.Lib

/-- Nothing but block b is turned, and no block is made. -/
structure Only (b : Nat) (w w' : World) : Prop where
  os : w'.os = w.os
  tape : w'.tape = w.tape
  output : w'.output = w.output
  size : w'.heap.size = w.heap.size
  block : ∀ k, k ≠ b → w'.heap[k]? = w.heap[k]?

theorem Only.refl (b : Nat) (w : World) : Only b w w := ⟨rfl, rfl, rfl, rfl, fun _ _ => rfl⟩
theorem Only.trans {b : Nat} {w w1 w2 : World} (h : Only b w w1) (k : Only b w1 w2) : Only b w w2 :=
  ⟨k.os.trans h.os, k.tape.trans h.tape, k.output.trans h.output, k.size.trans h.size, fun i hi => (k.block i hi).trans (h.block i hi)⟩
theorem Only.set {b : Nat} {w w' : World} (h : Only b w w') (i : Nat) (u : Value) : Only b w (w'.setCell ⟨b, i, none⟩ u) :=
  h.trans ⟨rfl, rfl, rfl, by simp [World.setCell], fun k hk => Below.heap_setCell _ _ _ _ hk⟩
theorem Only.below {b B : Nat} {w w' : World} (h : Only b w w') (hB : B ≤ b) : Below B w w' :=
  ⟨h.os, h.tape, h.output, Nat.le_of_eq h.size.symm, fun k hk => h.block k (by omega)⟩

/-- An error's value, of its number. -/
def errV (e : Int) : Value := if e = 0 then .nilIface else .iface 48 (.int .i64 e)
theorem errV_zero : errV 0 = .nilIface := rfl
theorem errV_pos {e : Int} (h : e ≠ 0) : errV e = .iface 48 (.int .i64 e) := if_neg h

/-- What Text answers, what is left, the first error. -/
def takeF (s : ByteArray) (e size : Int) : ByteArray × ByteArray × Int :=
  if e ≠ 0 then (ByteArray.empty, s, e) else if size < 0 then (ByteArray.empty, ByteArray.empty, 1)
  else if (s.size : Int) < size then (ByteArray.empty, ByteArray.empty, 4) else (s.extract 0 size.toNat, s.extract size.toNat s.size, 0)

/-- What fail leaves. -/
def failF (s : ByteArray) (e n : Int) : ByteArray × Int := if e ≠ 0 then (s, e) else (ByteArray.empty, n)

/-- What Num answers, what is left, the first error. -/
def inNumF (s : ByteArray) (e size : Int) : Int × ByteArray × Int :=
  if 1 ≤ size ∧ size ≤ 7 then (getF (takeF s e size).1, (takeF s e size).2) else (0, failF s e 1)

/-- What End answers. -/
def endF (s : ByteArray) (e : Int) : Int := if e ≠ 0 then e else if s = ByteArray.empty then 0 else 10

end Go.Proofs.YtielliiadacbbaaDoor.Le
