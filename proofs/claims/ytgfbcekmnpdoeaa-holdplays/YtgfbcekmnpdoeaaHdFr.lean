/-
  The document's holds in memory; what is free of them. No condition.
-/
import Derived.Test.YtgfbcekmnpdoeaaHdW
namespace Go.Proofs.Ytgfbcekmnpdoeaa.Hdi
open Go.ChangeShapes Go.WideShapes Go.ChangeAt Go.RowKit Go.Proofs.Fa Go.Proofs.Ytgfbcekmnpdoeaa.Hd
open Go.Proofs.Ytgfbcekmnpdoeaa.Nv (Turn Grow lt_of_heap lt_of_cell cell_of_heap free_of_heap icells scells icells_one scells_one)

/-- A thing that is held: its value in memory, and by whom. -/
structure Th where
  x : Int
  v : Value
  bs : List Int
def thc : List Th → List Value
  | [] => []
  | t :: r => .int .i64 t.x :: t.v :: thc r
theorem thc_append (a b : List Th) : thc (a ++ b) = thc a ++ thc b := by
  induction a with
  | nil => rfl
  | cons c a ih => simp [thc, ih]
theorem thc_length (a : List Th) : (thc a).length = a.length * 2 := by
  induction a with
  | nil => rfl
  | cons c a ih => simp [thc, ih]; omega
theorem thc_at (a : List Th) (j : Nat) (h : j < a.length) : (thc a)[j * 2]? = some (.int .i64 a[j].x) ∧ (thc a)[j * 2 + 1]? = some a[j].v := by
  induction a generalizing j with
  | nil => simp at h
  | cons x a ih =>
    cases j with
    | zero => exact ⟨rfl, rfl⟩
    | succ j =>
      have := ih j (by simpa using h)
      rw [show (j + 1) * 2 = j * 2 + 2 by omega]
      exact this

def ThRow (w : World) (B : Nat) (v : Value) (T : List Th) : Prop := w.ownsRow B 43 2 v T.length (thc T)
theorem ThRow.lt {w : World} {B : Nat} {v : Value} {T : List Th} (h : ThRow w B v T) (g : Nat) (hg : v.ownBlock = some g) : g < w.heap.size := by
  rcases h.2 with ⟨rfl, _⟩ | ⟨g', cap, cur, rfl, hb, hh, _⟩
  · cases hg
  · cases hg; exact lt_of_heap hh
theorem ThRow.ge {w : World} {B : Nat} {v : Value} {T : List Th} (h : ThRow w B v T) (g : Nat) (hg : v.ownBlock = some g) : B ≤ g := by
  rcases h.2 with ⟨rfl, _⟩ | ⟨g', cap, cur, rfl, hb, _⟩
  · cases hg
  · cases hg; exact hb
theorem ThRow.keep {w w' : World} {B : Nat} {v : Value} {T : List Th} (h : ThRow w B v T) (hk : ∀ g, v.ownBlock = some g → w'.heap[g]? = w.heap[g]?) : ThRow w' B v T := by
  refine ⟨h.1, ?_⟩
  rcases h.2 with hn | ⟨g, cap, cur, rfl, hb, hg, rest⟩
  · exact .inl hn
  · exact .inr ⟨g, cap, cur, rfl, hb, (hk g rfl).trans hg, rest⟩
theorem ThRow.base {w : World} {B B' : Nat} {v : Value} {T : List Th} (h : ThRow w B v T) (hB : B' ≤ B) : ThRow w B' v T := by
  refine ⟨h.1, ?_⟩
  rcases h.2 with hn | ⟨g, cap, cur, rfl, hb, rest⟩
  · exact .inl hn
  · exact .inr ⟨g, cap, cur, rfl, Nat.le_trans hB hb, rest⟩
theorem ThRow.slice {w : World} {B : Nat} {v : Value} {T : List Th} (h : ThRow w B v T) : ∃ a cap, v = .slice a T.length cap := by
  rcases h.2 with ⟨rfl, h0⟩ | ⟨g, cap, cur, rfl, _⟩
  · exact ⟨none, 0, by rw [h0]⟩
  · exact ⟨_, _, rfl⟩
theorem ThRow.cell {w : World} {B n cap : Nat} {a : Option Addr} {T : List Th} (h : ThRow w B (.slice a n cap) T) (k : Nat) (hk : k < T.length) : ∃ g, a = some ⟨g, 0, none⟩ ∧ g < w.heap.size ∧ n = T.length ∧ T.length ≤ cap ∧ cap ≤ 9223372036854775807 ∧ w.cell? ⟨g, k * 2, none⟩ = some (.int .i64 T[k].x) ∧ w.cell? ⟨g, k * 2 + 1, none⟩ = some T[k].v := by
  rcases h.2 with ⟨_, h0⟩ | ⟨g, cap', cur, he, hb, hg, hnc, hcm, _⟩
  · rw [h0] at hk; cases hk
  · cases he
    obtain ⟨t0, t1⟩ := thc_at T k hk
    have c0 := World.ownsRow.cells (g := g) h rfl _ _ t0
    have c1 := World.ownsRow.cells (g := g) h rfl _ _ t1
    simp only [Addr.add_lit, Nat.zero_add] at c0 c1
    exact ⟨g, rfl, lt_of_heap hg, rfl, hnc, hcm, c0, c1⟩
theorem TAt.slice {w : World} {v : Value} {xs : List Int} (h : TAt w v xs) : ∃ a cap, v = .slice a xs.length cap := by
  rcases h with ⟨rfl, rfl⟩ | ⟨g, off, cap, rfl, _⟩
  · exact ⟨none, 0, rfl⟩
  · exact ⟨_, _, rfl⟩
theorem TAt.bel {w w' : World} {v : Value} {xs : List Int} (h : TAt w v xs) {B : Nat} (hb : Below B w w') (hB : w.heap.size ≤ B) : TAt w' v xs :=
  h.turn (S := fun _ => False) ⟨hb.os, hb.tape, hb.output, hb.size, fun k hk _ => hb.block k (Nat.lt_of_lt_of_le hk hB)⟩ (fun _ _ h => h)

theorem info_th : (Try.prog.info? 43).map (fun i => (i.zero, i.size, i.bytes)) = some (some (.agg #[.int .i64 0, .slice none 0 0]), 2, 32) := by kernel_rfl
/-- append of one thing onto a row of one's own, behind a literal laid for it. -/
theorem app_th {w0 : Nat} {W : World} {v : Value} {T : List Th} (h : ThRow W w0 v T) (hB : w0 ≤ W.heap.size) (hl : T.length ≤ 100000) (x : Int) (a : Option Addr) (n c : Nat) (bs : List Int) :
    ∃ v' W', (Builtin.append_ #[30, 30] 30 #[v, .slice (some ⟨W.heap.size, 0, none⟩) 1 1]).run Try.prog (W.alloc (Obj.cells #[.int .i64 x, .slice a n c] 43)) = .ok v' W' ∧ ThRow W' w0 v' (T ++ [⟨x, .slice a n c, bs⟩]) ∧ (∀ B, B ≤ w0 → Below B W W') ∧ (∀ k, k < W.heap.size → v.ownBlock ≠ some k → W'.heap[k]? = W.heap[k]?) := by
  obtain ⟨i0, hi, hz0, hz1, hz2⟩ := info_parts info_th
  have hb : Below W.heap.size W (W.alloc (Obj.cells #[.int .i64 x, .slice a n c] 43)) := (Below.refl _ _).alloc (Nat.le_refl _) _
  have hr2 : ThRow (W.alloc (Obj.cells #[.int .i64 x, .slice a n c] 43)) w0 v T := h.keep (fun g hg => hb.block g (h.lt g hg))
  have hn := heap_alloc_new W (Obj.cells #[.int .i64 x, .slice a n c] 43)
  obtain ⟨v', W', hrun, hr, hg, _⟩ := run_append_near (P := Try.prog) (w := W.alloc (Obj.cells #[.int .i64 x, .slice a n c] 43)) w0 30 30 43 i0 _ 2 32 Try.underlying30 hi hz0 hz1 hz2 rfl (by decide) v T.length (thc T) hr2
    ⟨W.heap.size, 0, none⟩ 1 1 [.int .i64 x, .slice a n c] rfl (fun j u hu => by
      rw [Addr.add_lit]
      match j, hu with
      | 0, hu => cases hu; exact cell_of_heap hn 0 _ rfl
      | 1, hu => cases hu; exact cell_of_heap hn 1 _ rfl) (by intro u hu; simp only [List.mem_cons, List.not_mem_nil, or_false] at hu; rcases hu with rfl | rfl <;> rfl) (by unfold maxLen; omega) (by omega) (by rw [World.size_alloc]; omega)
  refine ⟨v', W', hrun, ?_, fun B hB' => (hb.mono (by omega)).grown hg (by rw [World.size_alloc]; omega) (fun k e => Nat.le_trans hB' (h.ge k e)), fun k hk hne => (hg.block k (by rw [World.size_alloc]; omega) (fun e => hne e.symm)).trans (hb.block k hk)⟩
  unfold ThRow
  rw [thc_append, List.length_append]
  exact hr

/-- A row of things and one of numbers are two. -/
theorem apart_rows {w : World} {B C : Nat} {v u : Value} {l : List Int} {T : List Th} (h : TRow w B v l) (k : ThRow w C u T) (g : Nat) (hg : v.ownBlock = some g) : u.ownBlock ≠ some g := by
  intro e
  rcases h.2 with ⟨rfl, _⟩ | ⟨g1, c1, cur1, rfl, _, hh1, _⟩
  · cases hg
  rcases k.2 with ⟨rfl, _⟩ | ⟨g2, c2, cur2, rfl, _, hh2, _⟩
  · cases e
  cases hg
  cases e
  rw [hh1] at hh2
  injection hh2 with hh2
  injection hh2 with _ hh2
  exact absurd hh2 (by decide)

/-- The document's holds at b. -/
structure RefIn (w : World) (b : Nat) (last : Int) (ins : List Int) (T : List Th) (vi vl : Value) : Prop where
  main : w.heap[b]? = some (.cells #[.int .i64 last, vi, vl] 32 (0, 0))
  ins : TRow w 0 vi ins
  row : ThRow w 0 vl T
  all : ∀ t ∈ T, TRow w 0 t.v t.bs
  ni : ∀ g, vi.ownBlock = some g → g ≠ b
  nt : ∀ t ∈ T, ∀ g, t.v.ownBlock = some g → g ≠ b
def emp (T : List Th) : List Th := T.filter (fun t => t.bs.isEmpty)
def non (T : List Th) : List Th := T.filter (fun t => !t.bs.isEmpty)

end Go.Proofs.Ytgfbcekmnpdoeaa.Hdi
