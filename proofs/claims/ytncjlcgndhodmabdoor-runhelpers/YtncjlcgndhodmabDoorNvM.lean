/-
  Layer 4's device, as it lies in memory; what a call may turn. No condition.
-/
import Derived.Test.YtncjlcgndhodmabDoorRows
import Derived.WalkKit
import Derived.ProofKit
import Derived.OpenShut
import Derived.Below
import Derived.OwnWalk
import Derived.Laws.AppendOwn
namespace Go.Proofs.YtncjlcgndhodmabDoor.Nv
open Go.ChangeShapes Go.WideShapes Go.ChangeAt Go.RowKit

/-- A command. -/
structure Cmd where
  kind : Int
  sector : Int
  data : ByteArray
  tag : Int

def Cmd.agg (c : Cmd) : Value := .agg #[.int .i64 c.kind, .int .i64 c.sector, .string c.data, .int .i64 c.tag]
/-- The cells of commands, one behind the other. -/
def ccells : List Cmd → List Value
  | [] => []
  | c :: r => .int .i64 c.kind :: .int .i64 c.sector :: .string c.data :: .int .i64 c.tag :: ccells r
def scells (l : List ByteArray) : List Value := l.map Value.string
def icells (l : List Int) : List Value := l.map (Value.int .i64)
theorem ccells_append (a b : List Cmd) : ccells (a ++ b) = ccells a ++ ccells b := by induction a with
  | nil => rfl
  | cons c a ih => simp [ccells, ih]
theorem ccells_length (a : List Cmd) : (ccells a).length = a.length * 4 := by induction a with
  | nil => rfl
  | cons c a ih => simp [ccells, ih]; omega
theorem ccells_at (a : List Cmd) (j : Nat) (c : Cmd) (h : a[j]? = some c) : (ccells a)[j * 4]? = some (.int .i64 c.kind) ∧ (ccells a)[j * 4 + 1]? = some (.int .i64 c.sector) ∧ (ccells a)[j * 4 + 2]? = some (.string c.data) ∧ (ccells a)[j * 4 + 3]? = some (.int .i64 c.tag) := by
  induction a generalizing j with
  | nil => simp at h
  | cons x a ih =>
    cases j with
    | zero =>
      simp only [List.getElem?_cons_zero, Option.some.injEq] at h
      subst h
      exact ⟨rfl, rfl, rfl, rfl⟩
    | succ j =>
      have h' : a[j]? = some c := by simpa using h
      have := ih j h'
      rw [show (j + 1) * 4 = j * 4 + 4 by omega]
      exact this
theorem ccells_one (a : List Cmd) : ∀ u ∈ ccells a, u.oneCell' = true := by
  induction a with
  | nil => intro u hu; cases hu
  | cons c a ih =>
    intro u hu
    simp only [ccells, List.mem_cons] at hu
    rcases hu with rfl | rfl | rfl | rfl | hu
    · rfl
    · rfl
    · rfl
    · rfl
    · exact ih u hu
theorem scells_one (a : List ByteArray) : ∀ u ∈ scells a, u.oneCell' = true := by
  intro u hu
  obtain ⟨x, _, rfl⟩ := List.mem_map.1 hu
  rfl
theorem icells_one (a : List Int) : ∀ u ∈ icells a, u.oneCell' = true := by
  intro u hu
  obtain ⟨x, _, rfl⟩ := List.mem_map.1 hu
  rfl

/-- From w to w' only blocks of S were turned, and new ones laid. -/
structure Turn (S : Nat → Prop) (w w' : World) : Prop where
  os : w'.os = w.os
  tape : w'.tape = w.tape
  output : w'.output = w.output
  size : w.heap.size ≤ w'.heap.size
  block : ∀ k, k < w.heap.size → ¬ S k → w'.heap[k]? = w.heap[k]?
/-- S, and what is new. -/
def Grow (S : Nat → Prop) (w w' : World) (k : Nat) : Prop := S k ∨ (w.heap.size ≤ k ∧ k < w'.heap.size)
theorem Turn.refl (S : Nat → Prop) (w : World) : Turn S w w := ⟨rfl, rfl, rfl, Nat.le_refl _, fun _ _ _ => rfl⟩
theorem Turn.trans {S : Nat → Prop} {a b c : World} (h : Turn S a b) (k : Turn (Grow S a b) b c) : Turn S a c :=
  ⟨k.os.trans h.os, k.tape.trans h.tape, k.output.trans h.output, Nat.le_trans h.size k.size, fun i hi hs => (k.block i (Nat.lt_of_lt_of_le hi h.size) (fun g => by
    rcases g with g | ⟨g, _⟩
    · exact hs g
    · omega)).trans (h.block i hi hs)⟩
theorem Turn.mono {S S' : Nat → Prop} {w w' : World} (h : Turn S w w') (hs : ∀ k, S k → S' k) : Turn S' w w' := ⟨h.os, h.tape, h.output, h.size, fun k hk hn => h.block k hk (fun g => hn (hs k g))⟩
theorem Turn.of_below {S : Nat → Prop} {w w' : World} (h : Below w.heap.size w w') : Turn S w w' := ⟨h.os, h.tape, h.output, h.size, fun k hk _ => h.block k hk⟩
theorem Turn.below {S : Nat → Prop} {w w' : World} {B : Nat} (h : Turn S w w') (hB : B ≤ w.heap.size) (hs : ∀ k, S k → B ≤ k) : Below B w w' :=
  ⟨h.os, h.tape, h.output, h.size, fun k hk => h.block k (by omega) (fun g => by have := hs k g; omega)⟩
theorem Turn.grown {S : Nat → Prop} {w w' : World} {row : Option Nat} (h : w.grownBy w' row) (hr : ∀ g, row = some g → S g) : Turn S w w' :=
  ⟨h.os, h.tape, h.output, h.size, fun k hk hs => h.block k hk (fun e => hs (hr k e.symm))⟩
theorem Turn.setCell {S : Nat → Prop} {w0 w : World} (h : Turn S w0 w) (b i : Nat) (v : Value) (hb : S b ∨ w0.heap.size ≤ b) : Turn S w0 (w.setCell ⟨b, i, none⟩ v) :=
  ⟨h.os, h.tape, h.output, by simpa using h.size, fun k hk hs => (heap_setCell_other w ⟨b, i, none⟩ k _ (by
    intro e
    have e' : k = b := e
    rcases hb with hb | hb
    · exact hs (e' ▸ hb)
    · omega)).trans (h.block k hk hs)⟩
theorem Turn.alloc {S : Nat → Prop} {w0 w : World} (h : Turn S w0 w) (o : Obj) : Turn S w0 (w.alloc o) :=
  ⟨h.os, h.tape, h.output, by have := h.size; simp; omega, fun k hk hs => (Below.heap_alloc _ _ _ (by have := h.size; omega)).trans (h.block k hk hs)⟩
theorem Turn.drew {S : Nat → Prop} {w0 w : World} (h : Turn S w0 w) : Turn S w0 w.drew := ⟨h.os, h.tape, h.output, h.size, h.block⟩

theorem lt_of_heap {w : World} {b : Nat} {o : Obj} (h : w.heap[b]? = some o) : b < w.heap.size := by
  rcases Nat.lt_or_ge b w.heap.size with hl | hl
  · exact hl
  · rw [Array.getElem?_eq_none hl] at h; cases h
theorem lt_of_cell {w : World} {b i : Nat} {v : Value} (h : w.cell? ⟨b, i, none⟩ = some v) : b < w.heap.size := by
  rcases Nat.lt_or_ge b w.heap.size with hl | hl
  · exact hl
  · simp [World.cell?, Array.getElem?_eq_none hl] at h
theorem cell_of_heap {w : World} {b : Nat} {c : Array Value} {t : TypeId} (h : w.heap[b]? = some (.cells c t (0, 0))) (i : Nat) (v : Value) (hv : c[i]? = some v) : w.cell? ⟨b, i, none⟩ = some v := by
  simp [World.cell?, h, hv]
theorem free_of_heap {w : World} {b : Nat} {c : Array Value} {t : TypeId} (h : w.heap[b]? = some (.cells c t (0, 0))) (i : Nat) : w.frozen? ⟨b, i, none⟩ = false := by
  simp [World.frozen?, h]

/-- A row stays where its block isn't turned. -/
theorem row_turn {S : Nat → Prop} {w w' : World} {B e size n : Nat} {v : Value} {xs : List Value} (h : w.ownsRow B e size v n xs) (ht : Turn S w w') (hs : ∀ g, v.ownBlock = some g → ¬ S g) : w'.ownsRow B e size v n xs := by
  refine ⟨h.1, ?_⟩
  rcases h.2 with hn | ⟨g, cap, cur, rfl, hb, hg, rest⟩
  · exact .inl hn
  · exact .inr ⟨g, cap, cur, rfl, hb, (ht.block g (lt_of_heap hg) (hs g rfl)).trans hg, rest⟩
theorem row_lt {w : World} {B e size n : Nat} {v : Value} {xs : List Value} (h : w.ownsRow B e size v n xs) (g : Nat) (hg : v.ownBlock = some g) : g < w.heap.size := by
  rcases h.2 with ⟨rfl, _⟩ | ⟨g', cap, cur, rfl, hb, hgg, _⟩
  · cases hg
  · cases hg; exact lt_of_heap hgg
/-- Which type the block of a row has. -/
theorem row_type {w : World} {B e size n : Nat} {v : Value} {xs : List Value} (h : w.ownsRow B e size v n xs) (g : Nat) (hg : v.ownBlock = some g) : ∃ c m, w.heap[g]? = some (.cells c e m) := by
  rcases h.2 with ⟨rfl, _⟩ | ⟨g', cap, cur, rfl, hb, hgg, _⟩
  · cases hg
  · cases hg; exact ⟨_, _, hgg⟩
/-- A row is a slice. -/
theorem row_slice {w : World} {B e size n : Nat} {v : Value} {xs : List Value} (h : w.ownsRow B e size v n xs) : ∃ a cap, v = .slice a n cap ∧ n ≤ maxLen := by
  rcases h.2 with ⟨rfl, rfl⟩ | ⟨g', cap, cur, rfl, hb, hgg, hnc, hcm, _⟩
  · exact ⟨none, 0, rfl, Nat.zero_le _⟩
  · exact ⟨_, _, rfl, by omega⟩

/-- A device: what lasts, the cache, what waits, whether it is down, when it fails, what is kept then, the counts. -/
structure Dev where
  depth : Int
  lasting : List ByteArray
  cache : List Cmd
  waiting : List Cmd
  down : Bool
  failAt : Int
  keep : List Int
  reads : Int
  writes : Int
  flushes : Int

def devCells (d : Dev) (vl vc vw vk : Value) : Array Value := #[.int .i64 d.depth, vl, vc, vw, .bool d.down, .int .i64 d.failAt, vk, .int .i64 d.reads, .int .i64 d.writes, .int .i64 d.flushes]

end Go.Proofs.YtncjlcgndhodmabDoor.Nv
