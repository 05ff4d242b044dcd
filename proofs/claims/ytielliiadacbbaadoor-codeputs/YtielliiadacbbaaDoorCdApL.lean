/-
  Appends of an instruction that stands anywhere; rows of the program's instructions and of the document's stay apart. No condition.
-/
import Derived.Test.YtielliiadacbbaaDoorCdR
namespace Go.Proofs.YtielliiadacbbaaDoor.Cd
open Go.ChangeShapes Go.WideShapes Go.ChangeAt Go.RowKit Go.Proofs.Fa
open Go.Proofs.YtielliiadacbbaaDoor.Nv (lt_of_heap lt_of_cell cell_of_heap free_of_heap)

set_option maxRecDepth 100000
set_option maxHeartbeats 1000000

/-- One instruction more, out of a literal that stands anywhere. -/
theorem app_lit {W : World} {B : Nat} {v : Value} {l : List In4} (h : IRow W B v l) (hB : B ≤ W.heap.size) (hl : l.length ≤ 100000) (x : In4) (b : Nat) (hx : W.heap[b]? = some (.cells #[.int .i64 x.op, .int .i64 x.d, .int .i64 x.s, .int .i64 x.imm] 27 (0, 0))) :
    ∃ v' W', (Builtin.append_ #[24, 24] 24 #[v, .slice (some ⟨b, 0, none⟩) 1 1]).run Tryd.prog W = .ok v' W' ∧ IRow W' B v' (l ++ [x]) ∧ Below B W W' ∧ (∀ k, k < W.heap.size → v.ownBlock ≠ some k → W'.heap[k]? = W.heap[k]?) := by
  obtain ⟨i0, hi, hz0, hz1, hz2⟩ := info_parts info_ins
  obtain ⟨v', W', hrun, hr, hg, _⟩ := run_append_near (P := Tryd.prog) (w := W) B 24 24 27 i0 _ 4 32 Tryd.underlying24 hi hz0 hz1 hz2 rfl (by decide) v l.length (icells l) h
    ⟨b, 0, none⟩ 1 1 [.int .i64 x.op, .int .i64 x.d, .int .i64 x.s, .int .i64 x.imm] rfl (fun j u hu => by
      rw [Addr.add_lit]
      match j, hu with
      | 0, hu => cases hu; exact cell_of_heap hx 0 _ rfl
      | 1, hu => cases hu; exact cell_of_heap hx 1 _ rfl
      | 2, hu => cases hu; exact cell_of_heap hx 2 _ rfl
      | 3, hu => cases hu; exact cell_of_heap hx 3 _ rfl) (by intro u hu; simp only [List.mem_cons, List.not_mem_nil, or_false] at hu; rcases hu with rfl | rfl | rfl | rfl <;> rfl) (by unfold maxLen; omega) (by omega) hB
  refine ⟨v', W', hrun, ?_, (Below.refl _ _).grown hg hB (fun k e => h.ge k e), fun k hk hne => hg.block k hk (fun e => hne e.symm)⟩
  unfold IRow
  rw [icells_append, List.length_append]
  exact hr

/-- One of the document's instructions more, out of a literal that stands anywhere. -/
theorem rapp_lit {W : World} {B : Nat} {v : Value} {l : List In4} (h : RRow W B v l) (hB : B ≤ W.heap.size) (hl : l.length ≤ 100000) (x : In4) (b : Nat) (hx : W.heap[b]? = some (.cells #[.int .i64 x.op, .int .i64 x.d, .int .i64 x.s, .int .i64 x.imm] 29 (0, 0))) :
    ∃ v' W', (Builtin.append_ #[25, 25] 25 #[v, .slice (some ⟨b, 0, none⟩) 1 1]).run Tryd.prog W = .ok v' W' ∧ RRow W' B v' (l ++ [x]) ∧ Below B W W' ∧ (∀ k, k < W.heap.size → v.ownBlock ≠ some k → W'.heap[k]? = W.heap[k]?) := by
  obtain ⟨i0, hi, hz0, hz1, hz2⟩ := info_parts info_rins
  obtain ⟨v', W', hrun, hr, hg, _⟩ := run_append_near (P := Tryd.prog) (w := W) B 25 25 29 i0 _ 4 32 Tryd.underlying25 hi hz0 hz1 hz2 rfl (by decide) v l.length (icells l) h
    ⟨b, 0, none⟩ 1 1 [.int .i64 x.op, .int .i64 x.d, .int .i64 x.s, .int .i64 x.imm] rfl (fun j u hu => by
      rw [Addr.add_lit]
      match j, hu with
      | 0, hu => cases hu; exact cell_of_heap hx 0 _ rfl
      | 1, hu => cases hu; exact cell_of_heap hx 1 _ rfl
      | 2, hu => cases hu; exact cell_of_heap hx 2 _ rfl
      | 3, hu => cases hu; exact cell_of_heap hx 3 _ rfl) (by intro u hu; simp only [List.mem_cons, List.not_mem_nil, or_false] at hu; rcases hu with rfl | rfl | rfl | rfl <;> rfl) (by unfold maxLen; omega) (by omega) hB
  refine ⟨v', W', hrun, ?_, (Below.refl _ _).grown hg hB (fun k e => h.ge k e), fun k hk hne => hg.block k hk (fun e => hne e.symm)⟩
  unfold RRow
  rw [icells_append, List.length_append]
  exact hr

theorem IRow.block {w : World} {B : Nat} {v : Value} {l : List In4} (h : IRow w B v l) (g : Nat) (hg : v.ownBlock = some g) : ∃ c, w.heap[g]? = some (.cells c 27 (0, 0)) := by
  rcases h.2 with ⟨rfl, _⟩ | ⟨g', cap, cur, rfl, _, hh, _⟩
  · cases hg
  · cases hg
    exact ⟨_, hh⟩
theorem RRow.block {w : World} {B : Nat} {v : Value} {l : List In4} (h : RRow w B v l) (g : Nat) (hg : v.ownBlock = some g) : ∃ c, w.heap[g]? = some (.cells c 29 (0, 0)) := by
  rcases h.2 with ⟨rfl, _⟩ | ⟨g', cap, cur, rfl, _, hh, _⟩
  · cases hg
  · cases hg
    exact ⟨_, hh⟩
theorem rows_apart {w : World} {B C : Nat} {v u : Value} {l m : List In4} (h : IRow w B v l) (k : RRow w C u m) (g : Nat) (hg : u.ownBlock = some g) : v.ownBlock ≠ some g := by
  intro e
  obtain ⟨c, hc⟩ := h.block g e
  obtain ⟨d, hd⟩ := k.block g hg
  rw [hc] at hd
  injection hd with hd
  injection hd with _ ht _
  exact absurd ht (by decide)

end Go.Proofs.YtielliiadacbbaaDoor.Cd
