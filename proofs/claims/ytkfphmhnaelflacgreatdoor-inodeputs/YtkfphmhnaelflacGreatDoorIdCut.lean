/-
  An inode that is cut. Condition: extents that lie below 2048.
-/
import Derived.Test.YtkfphmhnaelflacGreatDoorIdGrow
namespace Go.Proofs.YtkfphmhnaelflacGreatDoor.Id
open Go.ChangeShapes Go.WideShapes Go.ChangeAt Go.RowKit Go.Proofs.Fa

variable {w : World} {B : Nat}
set_option maxRecDepth 100000
set_option maxHeartbeats 1000000

/-- What Cut answers. -/
def CutAt (w : World) (ver : Int) (l : List Ext) (b : Int) (r : Ending) (w' : World) : Prop :=
  (∃ ver' v' f', r = .returned (.tuple #[ino ver' v', f', errV (if 0 ≤ b ∧ b ≤ sizeF l then 0 else 1)]) ∧
    ((0 ≤ b ∧ b ≤ sizeF l) → ver' = (if cutL l b = [] then ver else ver + 1) ∧ Row w' w.heap.size v' (cutK l b) ∧ Row w' w.heap.size f' (cutL l b)) ∧
    (¬ (0 ≤ b ∧ b ≤ sizeF l) → ver' = 0 ∧ v' = .slice none 0 0 ∧ f' = .slice none 0 0)) ∧ Below w.heap.size w w'

theorem cutK_drop (l : List Ext) (k : Nat) (b : Int) (hk : k < l.length) : cutK (l.drop k) b = (if 0 < min b l[k].len then [⟨l[k].pos, min b l[k].len⟩] else []) ++ cutK (l.drop (k + 1)) (b - min b l[k].len) := by rw [List.drop_eq_getElem_cons hk]; rfl
theorem cutL_drop (l : List Ext) (k : Nat) (b : Int) (hk : k < l.length) : cutL (l.drop k) b = (if min b l[k].len < l[k].len then [⟨l[k].pos + min b l[k].len, l[k].len - min b l[k].len⟩] else []) ++ cutL (l.drop (k + 1)) (b - min b l[k].len) := by rw [List.drop_eq_getElem_cons hk]; rfl

/-- Where Cut stands: the inode under way at block yb, what is free in a row of its own; both apart. -/
structure CutI (w wr : World) (yb : Nat) (ver : Int) (kv fv : Value) (kl fl : List Ext) : Prop where
  y : wr.heap[yb]? = some (.cells #[.int .i64 ver, kv] 26 (0, 0))
  res : wr.heap[w.heap.size + 1]? = some (.cells #[.int .i64 0, .slice none 0 0] 26 (0, 0))
  kr : Row wr (w.heap.size + 2) kv kl
  fr : Row wr (w.heap.size + 2) fv fl
  below : Below w.heap.size w wr
  yge : w.heap.size + 2 ≤ yb
  ky : ∀ i, kv.ownBlock = some i → i ≠ yb
  fy : ∀ i, fv.ownBlock = some i → i ≠ yb
  kf : ∀ i, kv.ownBlock = some i → fv.ownBlock ≠ some i

theorem CutI.alloc {w wr : World} {yb : Nat} {ver : Int} {kv fv : Value} {kl fl : List Ext} (h : CutI w wr yb ver kv fv kl fl) (o : Obj) : CutI w (wr.alloc o) yb ver kv fv kl fl :=
  ⟨(Below.heap_alloc _ _ _ (lt_of_heap h.y)).trans h.y, (Below.heap_alloc _ _ _ (lt_of_heap h.res)).trans h.res, World.ownsRow.alloc h.kr o, World.ownsRow.alloc h.fr o, h.below.alloc h.below.size o, h.yge, h.ky, h.fy, h.kf⟩

/-- An extent is laid behind those that stay. -/
theorem CutI.keep {w wr w5 : World} {yb : Nat} {ver : Int} {kv fv v5 : Value} {kl fl : List Ext} {e : Ext} (h : CutI w wr yb ver kv fv kl fl)
    (hown : w5.ownsRow (w.heap.size + 2) 51 2 v5 (kl.length + 1) (ecells kl ++ [.int .i64 e.pos, .int .i64 e.len])) (hg : wr.grownBy w5 kv.ownBlock) (hnear : Near wr kv v5) :
    CutI w (w5.setCell ⟨yb, 1, none⟩ v5) yb ver v5 fv (kl ++ [e]) fl ∧ w5.heap[yb]? = some (.cells #[.int .i64 ver, kv] 26 (0, 0)) := by
  have hy5 : w5.heap[yb]? = some (.cells #[.int .i64 ver, kv] 26 (0, 0)) := (hg.block yb (lt_of_heap h.y) (fun e => h.ky yb e.symm rfl)).trans h.y
  have hyl := lt_of_heap h.y
  have hv5 : ∀ i, v5.ownBlock = some i → i ≠ yb ∧ fv.ownBlock ≠ some i := by
    intro i hi
    rcases hnear with hh | ⟨j, hh, hj⟩
    · rw [hh] at hi; exact ⟨h.ky i hi, h.kf i hi⟩
    · rw [hh] at hi; cases hi
      exact ⟨by omega, fun e => by have := row_lt h.fr _ e; omega⟩
  refine ⟨⟨?_, ?_, ?_, ?_, ?_, h.yge, fun i hi => (hv5 i hi).1, h.fy, fun i hi => (hv5 i hi).2⟩, hy5⟩
  · exact heap_setCell_same _ yb 1 _ _ v5 hy5
  · have hlt := lt_of_heap h.res
    have := h.yge
    exact (heap_setCell_other _ ⟨yb, 1, none⟩ _ _ (by show w.heap.size + 1 ≠ yb; omega)).trans ((hg.block _ hlt (fun e => by have := row_ge h.kr _ e.symm; omega)).trans h.res)
  · show World.ownsRow _ _ _ _ _ _ _
    rw [ecells_append, List.length_append]
    exact row_keep hown (fun g hgb => heap_setCell_other _ ⟨yb, 1, none⟩ _ _ (hv5 g hgb).1)
  · exact row_keep h.fr (fun g hgb => (heap_setCell_other _ ⟨yb, 1, none⟩ _ _ (h.fy g hgb)).trans (hg.block g (row_lt h.fr g hgb) (fun e => h.kf g e.symm hgb)))
  · have := h.yge
    exact ((h.below.grown hg h.below.size (fun k e => by have := row_ge h.kr k e; omega)).setCell (p := ⟨yb, 1, none⟩) (by show w.heap.size ≤ yb; omega) _)

/-- An extent is laid behind those that are free. -/
theorem CutI.free {w wr w5 : World} {yb : Nat} {ver : Int} {kv fv v5 : Value} {kl fl : List Ext} {e : Ext} (h : CutI w wr yb ver kv fv kl fl)
    (hown : w5.ownsRow (w.heap.size + 2) 51 2 v5 (fl.length + 1) (ecells fl ++ [.int .i64 e.pos, .int .i64 e.len])) (hg : wr.grownBy w5 fv.ownBlock) (hnear : Near wr fv v5) :
    CutI w w5 yb ver kv v5 kl (fl ++ [e]) := by
  have hy5 : w5.heap[yb]? = some (.cells #[.int .i64 ver, kv] 26 (0, 0)) := (hg.block yb (lt_of_heap h.y) (fun e => h.fy yb e.symm rfl)).trans h.y
  have hyl := lt_of_heap h.y
  have hv5 : ∀ i, v5.ownBlock = some i → i ≠ yb ∧ kv.ownBlock ≠ some i := by
    intro i hi
    rcases hnear with hh | ⟨j, hh, hj⟩
    · rw [hh] at hi; exact ⟨h.fy i hi, fun e => h.kf i e hi⟩
    · rw [hh] at hi; cases hi
      exact ⟨by omega, fun e => by have := row_lt h.kr _ e; omega⟩
  refine ⟨hy5, ?_, ?_, ?_, ?_, h.yge, h.ky, fun i hi => (hv5 i hi).1, fun i hi e => (hv5 i e).2 hi⟩
  · exact (hg.block _ (lt_of_heap h.res) (fun e => by have := row_ge h.fr _ e.symm; omega)).trans h.res
  · exact row_keep h.kr (fun g hgb => hg.block g (row_lt h.kr g hgb) (fun e => h.kf g hgb e.symm))
  · show World.ownsRow _ _ _ _ _ _ _
    rw [ecells_append, List.length_append]
    exact hown
  · exact h.below.grown hg h.below.size (fun k e => by have := row_ge h.fr k e; omega)

theorem cells_newAt (w : World) (k : Nat) (hk : w.heap.size = k) (v0 v1 : Value) (t : TypeId) (j : Nat) (u : Value) (h : [v0, v1][j]? = some u) : (w.alloc (Obj.cells #[v0, v1] t)).cell? ((⟨k, 0, none⟩ : Addr).add j) = some u := by
  subst hk; exact cells_new2 w v0 v1 t j u h

end Go.Proofs.YtkfphmhnaelflacGreatDoor.Id
