/-
  Rows of the document's instructions. No condition.
-/
import Derived.Test.YtielliiadacbbaaDoorCdGet
namespace Go.Proofs.YtielliiadacbbaaDoor.Cd
open Go.ChangeShapes Go.WideShapes Go.ChangeAt Go.RowKit Go.Proofs.Fa
open Go.Proofs.YtielliiadacbbaaDoor.Nv (lt_of_heap lt_of_cell cell_of_heap free_of_heap)

set_option maxRecDepth 100000
set_option maxHeartbeats 1000000

/-- A row of the document's instructions of one's own. -/
def RRow (w : World) (B : Nat) (v : Value) (l : List In4) : Prop := w.ownsRow B 29 4 v l.length (icells l)
theorem RRow.slice {w : World} {B : Nat} {v : Value} {l : List In4} (h : RRow w B v l) : ∃ a c, v = .slice a l.length c := by
  rcases h.2 with ⟨rfl, hn⟩ | ⟨g, cap, cur, rfl, _⟩
  · exact ⟨none, 0, by rw [hn]⟩
  · exact ⟨_, cap, rfl⟩
theorem RRow.keep {w w' : World} {B : Nat} {v : Value} {l : List In4} (h : RRow w B v l) (hk : ∀ g, v.ownBlock = some g → w'.heap[g]? = w.heap[g]?) : RRow w' B v l := by
  refine ⟨h.1, ?_⟩
  rcases h.2 with hn | ⟨g, cap, cur, rfl, hb', hg, rest⟩
  · exact .inl hn
  · exact .inr ⟨g, cap, cur, rfl, hb', (hk g rfl).trans hg, rest⟩
theorem RRow.lt {w : World} {B : Nat} {v : Value} {l : List In4} (h : RRow w B v l) (g : Nat) (hg : v.ownBlock = some g) : g < w.heap.size := row_lt h g hg
theorem RRow.below {w w' : World} {B : Nat} {v : Value} {l : List In4} (h : RRow w B v l) (hb : Below w.heap.size w w') : RRow w' B v l := h.keep (fun g hg => hb.block g (h.lt g hg))
theorem RRow.ge {w : World} {B : Nat} {v : Value} {l : List In4} (h : RRow w B v l) (g : Nat) (hg : v.ownBlock = some g) : B ≤ g := by
  rcases h.2 with ⟨rfl, _⟩ | ⟨g', cap, cur, rfl, hb', _⟩
  · cases hg
  · cases hg
    exact hb'
theorem RRow.at {w : World} {B : Nat} {v : Value} {l : List In4} (h : RRow w B v l) : InsAt w v l := by
  have hl := icells_length l
  rcases h.2 with ⟨rfl, h0⟩ | ⟨g, cap, cur, rfl, hb, hg, hnc, hcm, hcs, ht⟩
  · exact .inl ⟨rfl, List.eq_nil_of_length_eq_zero h0⟩
  · refine .inr ⟨g, 0, cap, rfl, hnc, hcm, lt_of_heap hg, fun i hi => ?_⟩
    obtain ⟨e0, e1, e2, e3⟩ := icells_get l i hi
    have c0 := World.ownsRow.cells (g := g) h rfl (i * 4) _ e0
    have c1 := World.ownsRow.cells (g := g) h rfl (i * 4 + 1) _ e1
    have c2 := World.ownsRow.cells (g := g) h rfl (i * 4 + 2) _ e2
    have c3 := World.ownsRow.cells (g := g) h rfl (i * 4 + 3) _ e3
    rw [Addr.add_lit] at c0 c1 c2 c3
    exact ⟨c0, c1, c2, c3⟩

theorem info_rins : (Tryd.prog.info? 29).map (fun i => (i.zero, i.size, i.bytes)) = some (some (.agg #[.int .i64 0, .int .i64 0, .int .i64 0, .int .i64 0]), 4, 32) := by kernel_rfl

/-- One of the document's instructions more. -/
theorem rapp_ins {W : World} {B : Nat} {v : Value} {l : List In4} (h : RRow W B v l) (hB : B ≤ W.heap.size) (hl : l.length ≤ 100000) (x : In4) :
    ∃ v' W', (Builtin.append_ #[25, 25] 25 #[v, .slice (some ⟨W.heap.size, 0, none⟩) 1 1]).run Tryd.prog (W.alloc (Obj.cells #[.int .i64 x.op, .int .i64 x.d, .int .i64 x.s, .int .i64 x.imm] 29)) = .ok v' W' ∧ RRow W' B v' (l ++ [x]) ∧ Below B W W' ∧ (∀ k, k < W.heap.size → v.ownBlock ≠ some k → W'.heap[k]? = W.heap[k]?) := by
  obtain ⟨i0, hi, hz0, hz1, hz2⟩ := info_parts info_rins
  have hb : Below W.heap.size W (W.alloc (Obj.cells #[.int .i64 x.op, .int .i64 x.d, .int .i64 x.s, .int .i64 x.imm] 29)) := (Below.refl _ _).alloc (Nat.le_refl _) _
  have hr2 : RRow (W.alloc (Obj.cells #[.int .i64 x.op, .int .i64 x.d, .int .i64 x.s, .int .i64 x.imm] 29)) B v l := h.below hb
  have hn := heap_alloc_new W (Obj.cells #[.int .i64 x.op, .int .i64 x.d, .int .i64 x.s, .int .i64 x.imm] 29)
  obtain ⟨v', W', hrun, hr, hg, _⟩ := run_append_near (P := Tryd.prog) (w := W.alloc (Obj.cells #[.int .i64 x.op, .int .i64 x.d, .int .i64 x.s, .int .i64 x.imm] 29)) B 25 25 29 i0 _ 4 32 Tryd.underlying25 hi hz0 hz1 hz2 rfl (by decide) v l.length (icells l) hr2
    ⟨W.heap.size, 0, none⟩ 1 1 [.int .i64 x.op, .int .i64 x.d, .int .i64 x.s, .int .i64 x.imm] rfl (fun j u hu => by
      rw [Addr.add_lit]
      match j, hu with
      | 0, hu => cases hu; exact cell_of_heap hn 0 _ rfl
      | 1, hu => cases hu; exact cell_of_heap hn 1 _ rfl
      | 2, hu => cases hu; exact cell_of_heap hn 2 _ rfl
      | 3, hu => cases hu; exact cell_of_heap hn 3 _ rfl) (by intro u hu; simp only [List.mem_cons, List.not_mem_nil, or_false] at hu; rcases hu with rfl | rfl | rfl | rfl <;> rfl) (by unfold maxLen; omega) (by omega) (by rw [World.size_alloc]; omega)
  refine ⟨v', W', hrun, ?_, (hb.mono (by omega)).grown hg (by rw [World.size_alloc]; omega) (fun k e => h.ge k e), fun k hk hne => (hg.block k (by rw [World.size_alloc]; omega) (fun e => hne e.symm)).trans (hb.block k hk)⟩
  unfold RRow
  rw [icells_append, List.length_append]
  exact hr

end Go.Proofs.YtielliiadacbbaaDoor.Cd
