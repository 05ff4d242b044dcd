/-
  Layer 20's machine: what it has, and where that lies in memory. No condition.
-/
import Derived.Test.YtncjlcgndhodmabDoorCdM
namespace Go.Proofs.YtncjlcgndhodmabDoor.Rn
open Go.ChangeShapes Go.WideShapes Go.ChangeAt Go.RowKit
open Go.Proofs.YtncjlcgndhodmabDoor.Cd
open Go.Proofs.YtncjlcgndhodmabDoor.Nv (lt_of_heap lt_of_cell cell_of_heap free_of_heap)

set_option maxRecDepth 100000

/-- What a machine has, but for the program and the places in memory. -/
structure Mach where
  page : ByteArray
  key : ByteArray
  kb : Nat → Int
  r : Nat → Int
  at' : Int
  ended : Bool
  code : Int
  value : ByteArray
  next : Int
  steps : Int
/-- A register turned. -/
def Mach.put (m : Mach) (d : Nat) (v : Int) : Mach := { m with r := fun i => if i = d then v else m.r i }
/-- The cells of a machine: where the program, the Ends, the scratch and the loops are. -/
structure MC (A : Array Value) (pv ev : Value) (sb : Nat) (lv : Value) (m : Mach) : Prop where
  size : A.size = 36
  prog : A[0]? = some pv
  ends : A[1]? = some ev
  page : A[2]? = some (.string m.page)
  key : A[3]? = some (.string m.key)
  kb : ∀ i, i < 16 → A[4 + i]? = some (.int .u8 (m.kb i))
  scr : A[20]? = some (.pointer (some ⟨sb, 0, none⟩))
  reg : ∀ i, i < 8 → A[21 + i]? = some (.int .i64 (m.r i))
  at' : A[29]? = some (.int .i64 m.at')
  loops : A[30]? = some lv
  ended : A[31]? = some (.bool m.ended)
  code : A[32]? = some (.int .i64 m.code)
  value : A[33]? = some (.string m.value)
  next : A[34]? = some (.int .i64 m.next)
  steps : A[35]? = some (.int .i64 m.steps)
/-- A machine in a block. -/
def MAt (w : World) (b : Nat) (pv ev : Value) (sb : Nat) (lv : Value) (m : Mach) : Prop := ∃ A, w.heap[b]? = some (.cells A 57 (0, 0)) ∧ MC A pv ev sb lv m

theorem set_same {A : Array Value} {i : Nat} {v : Value} (h : i < A.size) : (A.setIfInBounds i v)[i]? = some v := by simp [h]
theorem set_other {A : Array Value} {i j : Nat} {v : Value} (h : i ≠ j) : (A.setIfInBounds i v)[j]? = A[j]? := by simp [h]

section
variable {w : World} {b sb : Nat} {pv ev lv : Value} {m : Mach} (h : MAt w b pv ev sb lv m)
include h
theorem MAt.lt : b < w.heap.size := by
  obtain ⟨A, hA, _⟩ := h
  exact lt_of_heap hA
theorem MAt.free (i : Nat) : w.frozen? ⟨b, i, none⟩ = false := by
  obtain ⟨A, hA, _⟩ := h
  exact free_of_heap hA i
theorem MAt.kept {w' : World} (e : w'.heap[b]? = w.heap[b]?) : MAt w' b pv ev sb lv m := by
  obtain ⟨A, hA, hC⟩ := h
  exact ⟨A, e.trans hA, hC⟩
theorem MAt.below {w' : World} (e : Below w.heap.size w w') : MAt w' b pv ev sb lv m := h.kept (e.block b h.lt)
theorem MAt.cProg : w.cell? ⟨b, 0, none⟩ = some pv := by obtain ⟨A, hA, hC⟩ := h; exact cell_of_heap hA 0 _ hC.prog
theorem MAt.cEnds : w.cell? ⟨b, 1, none⟩ = some ev := by obtain ⟨A, hA, hC⟩ := h; exact cell_of_heap hA 1 _ hC.ends
theorem MAt.cPage : w.cell? ⟨b, 2, none⟩ = some (.string m.page) := by obtain ⟨A, hA, hC⟩ := h; exact cell_of_heap hA 2 _ hC.page
theorem MAt.cKey : w.cell? ⟨b, 3, none⟩ = some (.string m.key) := by obtain ⟨A, hA, hC⟩ := h; exact cell_of_heap hA 3 _ hC.key
theorem MAt.cKb (i : Nat) (hi : i < 16) : w.cell? ⟨b, 4 + i, none⟩ = some (.int .u8 (m.kb i)) := by obtain ⟨A, hA, hC⟩ := h; exact cell_of_heap hA (4 + i) _ (hC.kb i hi)
theorem MAt.cScr : w.cell? ⟨b, 20, none⟩ = some (.pointer (some ⟨sb, 0, none⟩)) := by obtain ⟨A, hA, hC⟩ := h; exact cell_of_heap hA 20 _ hC.scr
theorem MAt.cReg (i : Nat) (hi : i < 8) : w.cell? ⟨b, 21 + i, none⟩ = some (.int .i64 (m.r i)) := by obtain ⟨A, hA, hC⟩ := h; exact cell_of_heap hA (21 + i) _ (hC.reg i hi)
theorem MAt.cAt : w.cell? ⟨b, 29, none⟩ = some (.int .i64 m.at') := by obtain ⟨A, hA, hC⟩ := h; exact cell_of_heap hA 29 _ hC.at'
theorem MAt.cLoops : w.cell? ⟨b, 30, none⟩ = some lv := by obtain ⟨A, hA, hC⟩ := h; exact cell_of_heap hA 30 _ hC.loops
theorem MAt.cEnded : w.cell? ⟨b, 31, none⟩ = some (.bool m.ended) := by obtain ⟨A, hA, hC⟩ := h; exact cell_of_heap hA 31 _ hC.ended
theorem MAt.cCode : w.cell? ⟨b, 32, none⟩ = some (.int .i64 m.code) := by obtain ⟨A, hA, hC⟩ := h; exact cell_of_heap hA 32 _ hC.code
theorem MAt.cValue : w.cell? ⟨b, 33, none⟩ = some (.string m.value) := by obtain ⟨A, hA, hC⟩ := h; exact cell_of_heap hA 33 _ hC.value
theorem MAt.cNext : w.cell? ⟨b, 34, none⟩ = some (.int .i64 m.next) := by obtain ⟨A, hA, hC⟩ := h; exact cell_of_heap hA 34 _ hC.next
theorem MAt.cSteps : w.cell? ⟨b, 35, none⟩ = some (.int .i64 m.steps) := by obtain ⟨A, hA, hC⟩ := h; exact cell_of_heap hA 35 _ hC.steps
theorem MAt.sAt (n : Int) : MAt (w.setCell ⟨b, 29, none⟩ (.int .i64 n)) b pv ev sb lv { m with at' := n } := by
  obtain ⟨A, hA, hC⟩ := h
  exact ⟨_, heap_setCell_same w b 29 A _ _ hA, ⟨by rw [Array.size_setIfInBounds]; exact hC.size, (set_other (by decide)).trans hC.prog, (set_other (by decide)).trans hC.ends, (set_other (by decide)).trans hC.page, (set_other (by decide)).trans hC.key, fun i hi => (set_other (by omega)).trans (hC.kb i hi), (set_other (by decide)).trans hC.scr, fun i hi => (set_other (by omega)).trans (hC.reg i hi), set_same (by rw [hC.size]; decide), (set_other (by decide)).trans hC.loops, (set_other (by decide)).trans hC.ended, (set_other (by decide)).trans hC.code, (set_other (by decide)).trans hC.value, (set_other (by decide)).trans hC.next, (set_other (by decide)).trans hC.steps⟩⟩
theorem MAt.sEnded (x : Bool) : MAt (w.setCell ⟨b, 31, none⟩ (.bool x)) b pv ev sb lv { m with ended := x } := by
  obtain ⟨A, hA, hC⟩ := h
  exact ⟨_, heap_setCell_same w b 31 A _ _ hA, ⟨by rw [Array.size_setIfInBounds]; exact hC.size, (set_other (by decide)).trans hC.prog, (set_other (by decide)).trans hC.ends, (set_other (by decide)).trans hC.page, (set_other (by decide)).trans hC.key, fun i hi => (set_other (by omega)).trans (hC.kb i hi), (set_other (by decide)).trans hC.scr, fun i hi => (set_other (by omega)).trans (hC.reg i hi), (set_other (by decide)).trans hC.at', (set_other (by decide)).trans hC.loops, set_same (by rw [hC.size]; decide), (set_other (by decide)).trans hC.code, (set_other (by decide)).trans hC.value, (set_other (by decide)).trans hC.next, (set_other (by decide)).trans hC.steps⟩⟩
theorem MAt.sCode (n : Int) : MAt (w.setCell ⟨b, 32, none⟩ (.int .i64 n)) b pv ev sb lv { m with code := n } := by
  obtain ⟨A, hA, hC⟩ := h
  exact ⟨_, heap_setCell_same w b 32 A _ _ hA, ⟨by rw [Array.size_setIfInBounds]; exact hC.size, (set_other (by decide)).trans hC.prog, (set_other (by decide)).trans hC.ends, (set_other (by decide)).trans hC.page, (set_other (by decide)).trans hC.key, fun i hi => (set_other (by omega)).trans (hC.kb i hi), (set_other (by decide)).trans hC.scr, fun i hi => (set_other (by omega)).trans (hC.reg i hi), (set_other (by decide)).trans hC.at', (set_other (by decide)).trans hC.loops, (set_other (by decide)).trans hC.ended, set_same (by rw [hC.size]; decide), (set_other (by decide)).trans hC.value, (set_other (by decide)).trans hC.next, (set_other (by decide)).trans hC.steps⟩⟩
theorem MAt.sValue (x : ByteArray) : MAt (w.setCell ⟨b, 33, none⟩ (.string x)) b pv ev sb lv { m with value := x } := by
  obtain ⟨A, hA, hC⟩ := h
  exact ⟨_, heap_setCell_same w b 33 A _ _ hA, ⟨by rw [Array.size_setIfInBounds]; exact hC.size, (set_other (by decide)).trans hC.prog, (set_other (by decide)).trans hC.ends, (set_other (by decide)).trans hC.page, (set_other (by decide)).trans hC.key, fun i hi => (set_other (by omega)).trans (hC.kb i hi), (set_other (by decide)).trans hC.scr, fun i hi => (set_other (by omega)).trans (hC.reg i hi), (set_other (by decide)).trans hC.at', (set_other (by decide)).trans hC.loops, (set_other (by decide)).trans hC.ended, (set_other (by decide)).trans hC.code, set_same (by rw [hC.size]; decide), (set_other (by decide)).trans hC.next, (set_other (by decide)).trans hC.steps⟩⟩
theorem MAt.sNext (n : Int) : MAt (w.setCell ⟨b, 34, none⟩ (.int .i64 n)) b pv ev sb lv { m with next := n } := by
  obtain ⟨A, hA, hC⟩ := h
  exact ⟨_, heap_setCell_same w b 34 A _ _ hA, ⟨by rw [Array.size_setIfInBounds]; exact hC.size, (set_other (by decide)).trans hC.prog, (set_other (by decide)).trans hC.ends, (set_other (by decide)).trans hC.page, (set_other (by decide)).trans hC.key, fun i hi => (set_other (by omega)).trans (hC.kb i hi), (set_other (by decide)).trans hC.scr, fun i hi => (set_other (by omega)).trans (hC.reg i hi), (set_other (by decide)).trans hC.at', (set_other (by decide)).trans hC.loops, (set_other (by decide)).trans hC.ended, (set_other (by decide)).trans hC.code, (set_other (by decide)).trans hC.value, set_same (by rw [hC.size]; decide), (set_other (by decide)).trans hC.steps⟩⟩
theorem MAt.sSteps (n : Int) : MAt (w.setCell ⟨b, 35, none⟩ (.int .i64 n)) b pv ev sb lv { m with steps := n } := by
  obtain ⟨A, hA, hC⟩ := h
  exact ⟨_, heap_setCell_same w b 35 A _ _ hA, ⟨by rw [Array.size_setIfInBounds]; exact hC.size, (set_other (by decide)).trans hC.prog, (set_other (by decide)).trans hC.ends, (set_other (by decide)).trans hC.page, (set_other (by decide)).trans hC.key, fun i hi => (set_other (by omega)).trans (hC.kb i hi), (set_other (by decide)).trans hC.scr, fun i hi => (set_other (by omega)).trans (hC.reg i hi), (set_other (by decide)).trans hC.at', (set_other (by decide)).trans hC.loops, (set_other (by decide)).trans hC.ended, (set_other (by decide)).trans hC.code, (set_other (by decide)).trans hC.value, (set_other (by decide)).trans hC.next, set_same (by rw [hC.size]; decide)⟩⟩
theorem MAt.sLoops (x : Value) : MAt (w.setCell ⟨b, 30, none⟩ (x)) b pv ev sb x m := by
  obtain ⟨A, hA, hC⟩ := h
  exact ⟨_, heap_setCell_same w b 30 A _ _ hA, ⟨by rw [Array.size_setIfInBounds]; exact hC.size, (set_other (by decide)).trans hC.prog, (set_other (by decide)).trans hC.ends, (set_other (by decide)).trans hC.page, (set_other (by decide)).trans hC.key, fun i hi => (set_other (by omega)).trans (hC.kb i hi), (set_other (by decide)).trans hC.scr, fun i hi => (set_other (by omega)).trans (hC.reg i hi), (set_other (by decide)).trans hC.at', set_same (by rw [hC.size]; decide), (set_other (by decide)).trans hC.ended, (set_other (by decide)).trans hC.code, (set_other (by decide)).trans hC.value, (set_other (by decide)).trans hC.next, (set_other (by decide)).trans hC.steps⟩⟩
theorem MAt.sReg (d : Nat) (hd : d < 8) (v : Int) : MAt (w.setCell ⟨b, 21 + d, none⟩ (.int .i64 v)) b pv ev sb lv (m.put d v) := by
  obtain ⟨A, hA, hC⟩ := h
  refine ⟨_, heap_setCell_same w b (21 + d) A _ _ hA, ⟨by rw [Array.size_setIfInBounds]; exact hC.size, (set_other (by omega)).trans hC.prog, (set_other (by omega)).trans hC.ends, (set_other (by omega)).trans hC.page, (set_other (by omega)).trans hC.key, fun i hi => (set_other (by omega)).trans (hC.kb i hi), (set_other (by omega)).trans hC.scr, ?_, (set_other (by omega)).trans hC.at', (set_other (by omega)).trans hC.loops, (set_other (by omega)).trans hC.ended, (set_other (by omega)).trans hC.code, (set_other (by omega)).trans hC.value, (set_other (by omega)).trans hC.next, (set_other (by omega)).trans hC.steps⟩⟩
  intro i hi
  show _ = some (Value.int .i64 (if i = d then v else m.r i))
  by_cases e : i = d
  · subst e; rw [if_pos rfl]; exact set_same (by rw [hC.size]; omega)
  · rw [if_neg e]; exact (set_other (by omega)).trans (hC.reg i hi)
end

/-- Nothing but the machine's block is turned of what was there. -/
def Own (b : Nat) (w w' : World) : Prop := w'.os = w.os ∧ w'.tape = w.tape ∧ w'.output = w.output ∧ w.heap.size ≤ w'.heap.size ∧ ∀ k, k < w.heap.size → k ≠ b → w'.heap[k]? = w.heap[k]?
theorem Own.refl (b : Nat) (w : World) : Own b w w := ⟨rfl, rfl, rfl, Nat.le_refl _, fun _ _ _ => rfl⟩
theorem Own.trans {b : Nat} {w w1 w2 : World} (h : Own b w w1) (k : Own b w1 w2) : Own b w w2 :=
  ⟨k.1.trans h.1, k.2.1.trans h.2.1, k.2.2.1.trans h.2.2.1, Nat.le_trans h.2.2.2.1 k.2.2.2.1, fun i hi hb => (k.2.2.2.2 i (Nat.lt_of_lt_of_le hi h.2.2.2.1) hb).trans (h.2.2.2.2 i hi hb)⟩
theorem Own.set (b : Nat) (w : World) (i : Nat) (v : Value) : Own b w (w.setCell ⟨b, i, none⟩ v) :=
  ⟨rfl, rfl, rfl, by simp, fun k _ hb => heap_setCell_other w ⟨b, i, none⟩ k v hb⟩
theorem Own.of_below {b : Nat} {w w' : World} (h : Below w.heap.size w w') : Own b w w' := ⟨h.os, h.tape, h.output, h.size, fun k hk _ => h.block k hk⟩
theorem Own.below {b B : Nat} {w w' : World} (h : Own b w w') (hb : B ≤ b) (hB : B ≤ w.heap.size) : Below B w w' :=
  ⟨h.1, h.2.1, h.2.2.1, h.2.2.2.1, fun k hk => h.2.2.2.2 k (by omega) (by omega)⟩

end Go.Proofs.YtncjlcgndhodmabDoor.Rn
