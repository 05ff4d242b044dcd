/-
  Errors as layer 2's statements make them: layers (a fault, or two errors at once) round a number, nothing, or a nil fault. Where they lie, and what they come to. No condition.
-/
import Derived.Test.YtocfhejjmefmcaaDoorRows
import Derived.WalkKit
import Derived.ProofKit
import Derived.OpenShut
import Derived.Below
import Derived.Stop.Asserts
import Derived.LaidEql
namespace Go.Proofs.YtocfhejjmefmcaaDoor.Fa
open Go.ChangeShapes Go.WideShapes Go.ChangeAt Go.RowKit

/-- A layer of an error: a fault, or (join) many: what is within, and a number. -/
structure Layer where
  join : Bool
  op : ByteArray
  pos : Int
  k : Int
  lo : -9223372036854775808 ≤ pos
  hi : pos ≤ 9223372036854775807
  sz : op.size ≤ 1000

/-- What is within all layers: nothing, a nil fault, a number. -/
def baseV : Option (Option Int) → Value
  | none => .nilIface
  | some none => .iface 44 (.pointer none)
  | some (some n) => .iface 36 (.int .i64 n)

/-- The error v of these layers, the outermost first, lies in w. -/
def ErrAt (w : World) (b : Option (Option Int)) : List Layer → Value → Prop
  | [], v => v = baseV b
  | y :: r, v =>
    (y.join = true ∧ ∃ g cap v', v = .iface 56 (.slice (some ⟨g, 0, none⟩) 2 cap) ∧ w.cell? ⟨g, 0, none⟩ = some v' ∧ w.cell? ⟨g, 1, none⟩ = some (.iface 36 (.int .i64 y.k)) ∧ ErrAt w b r v') ∨
    (y.join = false ∧ ∃ g v', v = .iface 44 (.pointer (some ⟨g, 0, none⟩)) ∧ w.heap[g]? = some (.cells #[.string y.op, .int .i64 y.pos, v'] 46 (0, 0)) ∧ ErrAt w b r v')

theorem lt_of_heap {w : World} {b : Nat} {o : Obj} (h : w.heap[b]? = some o) : b < w.heap.size := by
  rcases Nat.lt_or_ge b w.heap.size with hl | hl
  · exact hl
  · rw [Array.getElem?_eq_none hl] at h; cases h
theorem lt_of_cell {w : World} {b i : Nat} {v : Value} (h : w.cell? ⟨b, i, none⟩ = some v) : b < w.heap.size := by
  rcases Nat.lt_or_ge b w.heap.size with hl | hl
  · exact hl
  · simp [World.cell?, Array.getElem?_eq_none hl] at h
theorem cell_of_heap {w : World} {b : Nat} {c : Array Value} {t : TypeId} (h : w.heap[b]? = some (.cells c t (0, 0))) (i : Nat) (v : Value) (hv : c[i]? = some v) : w.cell? ⟨b, i, none⟩ = some v := by
  simp [World.cell?, h, hv]
theorem free_of_heap {w : World} {b : Nat} {c : Array Value} {t : TypeId} (h : w.heap[b]? = some (.cells c t (0, 0))) (i : Nat) : w.frozen? ⟨b, i, none⟩ = false := by
  simp [World.frozen?, h]

/-- An error is as it was where nothing old was turned. -/
theorem ErrAt.below {w w' : World} {b : Option (Option Int)} (hb : Below w.heap.size w w') : ∀ {l : List Layer} {v : Value}, ErrAt w b l v → ErrAt w' b l v
  | [], _, h => h
  | y :: r, v, h => by
    rcases h with ⟨hj, g, cap, v', rfl, h0, h1, hr⟩ | ⟨hj, g, v', rfl, h0, hr⟩
    · refine .inl ⟨hj, g, cap, v', rfl, ?_, ?_, ErrAt.below hb hr⟩
      · rw [hb.cell (p := ⟨g, 0, none⟩) (lt_of_cell h0)]; exact h0
      · rw [hb.cell (p := ⟨g, 1, none⟩) (lt_of_cell h0)]; exact h1
    · refine .inr ⟨hj, g, v', rfl, ?_, ErrAt.below hb hr⟩
      rw [hb.block g (lt_of_heap h0)]; exact h0

/-- The words of the errors. -/
def wordsL : List (List UInt8) := match (Rows.laid_posthorse_api_words : DataW Unit) with
  | .agg l => l.map fun d => match d with | .lit (.string s) => s | _ => []
  | _ => []

/-- The table of words lies in w. -/
def WordsAt (w : World) : Prop := ∀ i, i < 20 → w.cell? ⟨1, i, none⟩ = some (.string ⟨(wordsL.getD i []).toArray⟩)

/-- A number's word. -/
def wordF (n : Int) : ByteArray := if 1 ≤ n ∧ n < 20 then ⟨(wordsL.getD n.toNat []).toArray⟩ else ⟨#[117, 110, 107, 110, 111, 119, 110]⟩
theorem wordF_in {n : Int} (h1 : 1 ≤ n) (h2 : n < 20) : wordF n = ⟨(wordsL.getD n.toNat []).toArray⟩ := if_pos ⟨h1, h2⟩
theorem wordF_out {n : Int} (h : ¬ (1 ≤ n ∧ n < 20)) : wordF n = ⟨#[117, 110, 107, 110, 111, 119, 110]⟩ := if_neg h

set_option maxRecDepth 100000 in
set_option maxHeartbeats 400000 in
theorem errno_any (n : Int) (w : World) (hw : WordsAt w) :
    Calls Tryd.prog 27 #[.int .i64 n] w fun e w' => e = .returned (.string (wordF n)) ∧ w' = w := by
  by_cases h1 : n < 1
  · have HF : Hid (wordF n = ⟨#[117, 110, 107, 110, 111, 119, 110]⟩) := wordF_out (by omega)
    clear hw
    go_enter Tryd.func27, Tryd.ntmps27
    go_wp2
    go_ret
    rw [HF.out]
    exact ⟨rfl, rfl⟩
  · by_cases h2 : 20 ≤ n
    · have HF : Hid (wordF n = ⟨#[117, 110, 107, 110, 111, 119, 110]⟩) := wordF_out (by omega)
      have h1' : 1 ≤ n := by omega
      clear hw
      go_enter Tryd.func27, Tryd.ntmps27
      go_wp2
      go_ret
      rw [HF.out]
      exact ⟨rfl, rfl⟩
    · have HF : Hid (wordF n = ⟨(wordsL.getD n.toNat []).toArray⟩) := wordF_in (by omega) (by omega)
      have hc := hw n.toNat (by omega)
      have h1' : 1 ≤ n := by omega
      have h2' : n < 20 := by omega
      generalize (wordsL.getD n.toNat []) = s at *
      clear hw
      go_enter Tryd.func27, Tryd.ntmps27
      go_wp2
      go_ret
      rw [HF.out]
      exact ⟨rfl, rfl⟩

end Go.Proofs.YtocfhejjmefmcaaDoor.Fa
