/-
  Errors as layer 2's statements make them: layers (a fault, or two errors at once) round a number, nothing, or a nil fault. Where they lie, and what they come to. No condition.
-/
import Derived.Test.YtncjlcgndhodmabDoorRows
import Derived.WalkKit
import Derived.ProofKit
import Derived.OpenShut
import Derived.Below
import Derived.Stop.Asserts
import Derived.LaidEql
namespace Go.Proofs.YtncjlcgndhodmabDoor.Fa
open Go.ChangeShapes Go.WideShapes Go.ChangeAt Go.RowKit

/-- A layer of an error: a fault, or (join) many: what is within, and a number. -/
structure Layer where
  join : Bool
  op : ByteArray
  pos : Int
  k : Int
  lo : -9223372036854775808 ≤ pos
  hi : pos ≤ 9223372036854775807
  sz : op.size ≤ 1000

/-- What is within all layers: nothing, a nil fault, a number. -/
def baseV : Option (Option Int) → Value
  | none => .nilIface
  | some none => .iface 94 (.pointer none)
  | some (some n) => .iface 49 (.int .i64 n)

/-- The error v of these layers, the outermost first, lies in w. -/
def ErrAt (w : World) (b : Option (Option Int)) : List Layer → Value → Prop
  | [], v => v = baseV b
  | y :: r, v =>
    (y.join = true ∧ ∃ g cap v', v = .iface 97 (.slice (some ⟨g, 0, none⟩) 2 cap) ∧ w.cell? ⟨g, 0, none⟩ = some v' ∧ w.cell? ⟨g, 1, none⟩ = some (.iface 49 (.int .i64 y.k)) ∧ ErrAt w b r v') ∨
    (y.join = false ∧ ∃ g v', v = .iface 94 (.pointer (some ⟨g, 0, none⟩)) ∧ w.heap[g]? = some (.cells #[.string y.op, .int .i64 y.pos, v'] 96 (0, 0)) ∧ ErrAt w b r v')

theorem lt_of_heap {w : World} {b : Nat} {o : Obj} (h : w.heap[b]? = some o) : b < w.heap.size := by
  rcases Nat.lt_or_ge b w.heap.size with hl | hl
  · exact hl
  · rw [Array.getElem?_eq_none hl] at h; cases h
theorem lt_of_cell {w : World} {b i : Nat} {v : Value} (h : w.cell? ⟨b, i, none⟩ = some v) : b < w.heap.size := by
  rcases Nat.lt_or_ge b w.heap.size with hl | hl
  · exact hl
  · simp [World.cell?, Array.getElem?_eq_none hl] at h
theorem cell_of_heap {w : World} {b : Nat} {c : Array Value} {t : TypeId} (h : w.heap[b]? = some (.cells c t (0, 0))) (i : Nat) (v : Value) (hv : c[i]? = some v) : w.cell? ⟨b, i, none⟩ = some v := by
  simp [World.cell?, h, hv]
theorem free_of_heap {w : World} {b : Nat} {c : Array Value} {t : TypeId} (h : w.heap[b]? = some (.cells c t (0, 0))) (i : Nat) : w.frozen? ⟨b, i, none⟩ = false := by
  simp [World.frozen?, h]

/-- An error is as it was where nothing old was turned. -/
theorem ErrAt.below {w w' : World} {b : Option (Option Int)} (hb : Below w.heap.size w w') : ∀ {l : List Layer} {v : Value}, ErrAt w b l v → ErrAt w' b l v
  | [], _, h => h
  | y :: r, v, h => by
    rcases h with ⟨hj, g, cap, v', rfl, h0, h1, hr⟩ | ⟨hj, g, v', rfl, h0, hr⟩
    · refine .inl ⟨hj, g, cap, v', rfl, ?_, ?_, ErrAt.below hb hr⟩
      · rw [hb.cell (p := ⟨g, 0, none⟩) (lt_of_cell h0)]; exact h0
      · rw [hb.cell (p := ⟨g, 1, none⟩) (lt_of_cell h0)]; exact h1
    · refine .inr ⟨hj, g, v', rfl, ?_, ErrAt.below hb hr⟩
      rw [hb.block g (lt_of_heap h0)]; exact h0

end Go.Proofs.YtncjlcgndhodmabDoor.Fa
