/-
  A row of extents copied; an inode one version on. No condition.
-/
import Derived.Test.YtkfphmhnaelflacGreatDoorIdIdx
import Derived.Test.YtkfphmhnaelflacGreatDoorFaApp
import Derived.Lib.BufferMore
namespace Go.Proofs.YtkfphmhnaelflacGreatDoor.Id
open Go.ChangeShapes Go.WideShapes Go.ChangeAt Go.RowKit Go.Proofs.Fa

theorem info_ext : (Tryz.prog.info? 51).map (fun i => (i.zero, i.size, i.bytes)) = some (some (.agg #[.int .i64 0, .int .i64 0]), 2, 16) := by kernel_rfl
theorem info_parts {o : Option TypeInfo} {z : Option Value} {s b : Nat} (h : o.map (fun i => (i.zero, i.size, i.bytes)) = some (z, s, b)) : ∃ i, o = some i ∧ i.zero = z ∧ i.size = s ∧ i.bytes = b := by
  cases o with
  | none => cases h
  | some i => simp at h; exact ⟨i, rfl, h.1, h.2.1, h.2.2⟩

variable {w : World} {B : Nat}
set_option maxRecDepth 100000
set_option maxHeartbeats 1000000

theorem clone_any (v : Value) (l : List Ext) (hr : Row w B v l) (hn : l.length ≤ 2000000) :
    Calls Tryz.prog 49 #[v] w fun e w' => ∃ v', e = .returned v' ∧ Row w' w.heap.size v' l ∧ Below w.heap.size w w' := by
  obtain ⟨i0, hi, hz0, hz1, hz2⟩ := info_parts info_ext
  rcases hr.2 with ⟨rfl, h0⟩ | ⟨g, cap, cur, rfl, _⟩
  · have hl : l = [] := List.eq_nil_of_length_eq_zero h0
    subst hl
    have he := Lib.run_eql_slice_nil_nil (P := Tryz.prog) w 0 0 Tryz.underlying24
    go_enter Tryz.func49, Tryz.ntmps49
    go_wp2
    go_ret
    exact ⟨_, rfl, World.ownsRow_nil _ _ _ _, Below.refl _ _⟩
  · have hsrc := World.ownsRow.cells (g := g) hr rfl
    have HR : Hid (Row w B (.slice (some ⟨g, 0, none⟩) l.length cap) l) := hr
    have hglt : g < w.heap.size := row_lt hr g rfl
    have he := Lib.run_eql_slice_some_nil (P := Tryz.prog) w ⟨g, 0, none⟩ l.length cap Tryz.underlying24
    clear hr
    go_enter Tryz.func49, Tryz.ntmps49
    go_wp2_with (at_builtin; refine wpList_append_near _ rfl _ _ 24 rfl w.heap.size 51 i0 _ 2 16 Tryz.underlying24 hi hz0 hz1 hz2 rfl (by decide) _ 0 [] rfl (World.ownsRow_lit w #[] 0 (Nat.le_refl _) (by decide) rfl) ⟨g, 0, none⟩ l.length cap (ecells l) rfl (ecells_length l) (fun j u hu => (World.cell?_of_block (Below.heap_alloc _ _ _ (by simpa [Addr.add_lit] using hglt))).trans (hsrc j u hu)) (ecells_one l) (by unfold maxLen; omega) (by omega) (by simp) ?_; intro v' w1 hown' hgrow hnear)
    go_ret
    refine ⟨_, rfl, ?_, ?_⟩
    · rw [Nat.zero_add, List.nil_append] at hown'; exact hown'
    · exact ((Below.refl _ w).alloc (Nat.le_refl _) _).grown hgrow (by simp) (fun k e => by cases e; exact Nat.le_refl _)

/-- Two cells of a block turned. -/
theorem set2_heap {w : World} {z : Nat} {a0 a1 : Value} {t : TypeId} (h : w.heap[z]? = some (.cells #[a0, a1] t (0, 0))) (v0 v1 : Value) : ((w.setCell ⟨z, 0, none⟩ v0).setCell ⟨z, 1, none⟩ v1).heap[z]? = some (.cells #[v0, v1] t (0, 0)) := by
  have h0 := heap_setCell_same w z 0 _ t v0 h
  exact heap_setCell_same _ z 1 _ t v1 h0
theorem set2_below {B : Nat} {w0 w : World} (h : Below B w0 w) (z : Nat) (hb : B ≤ z) (v0 v1 : Value) : Below B w0 ((w.setCell ⟨z, 0, none⟩ v0).setCell ⟨z, 1, none⟩ v1) :=
  (h.setCell (p := ⟨z, 0, none⟩) hb _).setCell (p := ⟨z, 1, none⟩) hb _
/-- A row is as it was where its block is. -/
theorem row_keep {w w' : World} {B e size n : Nat} {v : Value} {xs : List Value} (h : w.ownsRow B e size v n xs) (hk : ∀ g, v.ownBlock = some g → w'.heap[g]? = w.heap[g]?) : w'.ownsRow B e size v n xs := by
  refine ⟨h.1, ?_⟩
  rcases h.2 with hn | ⟨g, cap, cur, rfl, hb', hg, rest⟩
  · exact .inl hn
  · exact .inr ⟨g, cap, cur, rfl, hb', (hk g rfl).trans hg, rest⟩
theorem set2_other {w : World} {z k : Nat} (h : k ≠ z) (v0 v1 : Value) : ((w.setCell ⟨z, 0, none⟩ v0).setCell ⟨z, 1, none⟩ v1).heap[k]? = w.heap[k]? :=
  (heap_setCell_other _ ⟨z, 1, none⟩ k _ h).trans (heap_setCell_other _ ⟨z, 0, none⟩ k _ h)
theorem agg2 {w : World} {z : Nat} {a0 a1 : Value} {t : TypeId} (h : w.heap[z]? = some (.cells #[a0, a1] t (0, 0))) : w.cell? ⟨z, 0, none⟩ = some a0 ∧ w.cell? ⟨z, 1, none⟩ = some a1 ∧ w.frozen? ⟨z, 0, none⟩ = false ∧ w.frozen? ⟨z, 1, none⟩ = false :=
  ⟨cell_of_heap h 0 _ rfl, cell_of_heap h 1 _ rfl, free_of_heap h 0, free_of_heap h 1⟩

theorem res_next (tm : Array Value) (rb : Nat) (W : World) (ver : Int) (a : Option Addr) (n c : Nat) (h2 : tm[2]? = some (.pointer (some ⟨rb, 0, none⟩))) (h : W.heap[rb]? = some (.cells #[.int .i64 ver, .slice a n c] 26 (0, 0))) :
    (results Tryz.f34 tm).run Tryz.prog W = .ok (ino ver (.slice a n c)) W := by
  obtain ⟨c0, c1, _⟩ := agg2 h
  clear h
  simp [results, Tryz.f34, go_sem, h2, c0, c1, ino]

theorem next_any (ver : Int) (v : Value) (l : List Ext) (hr : Row w B v l) (hn : l.length ≤ 1000000) (hv : 0 ≤ ver ∧ ver < 9223372036854775807) :
    Calls Tryz.prog 34 #[ino ver v] w fun r w' => ∃ v', r = .returned (ino (ver + 1) v') ∧ Row w' w.heap.size v' l ∧ Below w.heap.size w w' := by
  obtain ⟨a, cap, rfl, _⟩ := row_slice hr
  have HR : Hid (Row w B (.slice a l.length cap) l) := hr
  clear hr
  simp only [ino]
  obtain ⟨w0, hw0⟩ : ∃ w0, w0 = (w.alloc (Obj.cells #[.int .i64 ver, .slice a l.length cap] 26)).alloc (Obj.cells #[.int .i64 0, .slice none 0 0] 26) := ⟨_, rfl⟩
  have HX0 : w0.heap[w.heap.size]? = some (.cells #[.int .i64 ver, .slice a l.length cap] 26 (0, 0)) := by rw [hw0]; exact (Below.heap_alloc _ _ _ (by simp)).trans (heap_alloc_new w _)
  have HY0 : Hid (w0.heap[w.heap.size + 1]? = some (.cells #[.int .i64 0, .slice none 0 0] 26 (0, 0))) := by
    rw [hw0]
    have := heap_alloc_new (w.alloc (Obj.cells #[.int .i64 ver, .slice a l.length cap] 26)) (Obj.cells #[.int .i64 0, .slice none 0 0] 26)
    rw [World.size_alloc] at this
    exact this
  have HB0 : Hid (Below w.heap.size w w0) := by rw [hw0]; exact ((Below.refl _ _).alloc (Nat.le_refl _) _).alloc (by simp) _
  obtain ⟨x0, x1, _⟩ := agg2 HX0
  go_enter Tryz.func34, Tryz.ntmps34
  go_wp2
  rw [← hw0]
  clear hw0 HX0
  refine wp_region_held_drew (S := fun W => W.cell? ⟨w.heap.size, 0, none⟩ = some (.int .i64 ver) ∧ W.cell? ⟨w.heap.size, 1, none⟩ = some (.slice a l.length cap)) (by kernel_rfl) (by exact ⟨x0, x1⟩) (fun hHeld => ?_)
  change wpAnyH _ _ _ _ _ 8 (Array.replicate 8 false) _ _
  refine wpAnyH_take (i := 0) (oi := _) (v := _) (by simp only [List.getElem?_toArray, List.getElem?_cons_zero]; rfl) (by kernel_rfl) (by kernel_rfl) (by kernel_rfl) (by exact fun _ _ _ h => h) (Or.inl ⟨by rfl, by intro w' hSw; (try dsimp only at hSw); first | (go_simp; done) | (go_simp; with_reducible rfl)⟩) hHeld ?_
  simp only [Act.put, List.setIfInBounds_toArray, List.set_cons_zero, List.set_cons_succ]
  refine wpAnyH_take (i := 1) (oi := _) (v := _) (by simp only [List.getElem?_toArray, List.getElem?_cons_succ, List.getElem?_cons_zero]; rfl) (by kernel_rfl) (by kernel_rfl) (by kernel_rfl) (by exact fun _ _ _ h => h) (Or.inl ⟨by rfl, by intro w' hSw; (try dsimp only at hSw); first | (go_simp; done) | (go_simp; with_reducible rfl)⟩) hHeld ?_
  simp only [Act.put, List.setIfInBounds_toArray, List.set_cons_zero, List.set_cons_succ]
  refine wpAnyH_take (i := 2) (oi := _) (v := _) (by simp only [List.getElem?_toArray, List.getElem?_cons_succ, List.getElem?_cons_zero]; rfl) (by kernel_rfl) (by kernel_rfl) (by kernel_rfl) (by exact fun _ _ _ h => h) (Or.inl ⟨by rfl, by intro w' hSw; (try dsimp only at hSw); first | (go_simp; done) | (go_simp; with_reducible rfl)⟩) hHeld ?_
  simp only [Act.put, List.setIfInBounds_toArray, List.set_cons_zero, List.set_cons_succ]
  refine wpAnyH_take (i := 3) (oi := _) (v := _) (by simp only [List.getElem?_toArray, List.getElem?_cons_succ, List.getElem?_cons_zero]; rfl) (by kernel_rfl) (by kernel_rfl) (by kernel_rfl) (by exact fun _ _ _ h => h) (Or.inl ⟨by rfl, by intro w' hSw; (try dsimp only at hSw); first | (go_simp; done) | (go_simp; with_reducible rfl)⟩) hHeld ?_
  simp only [Act.put, List.setIfInBounds_toArray, List.set_cons_zero, List.set_cons_succ]
  refine wpAnyH_take (i := 4) (oi := _) (v := _) (by simp only [List.getElem?_toArray, List.getElem?_cons_succ, List.getElem?_cons_zero]; rfl) (by kernel_rfl) (by kernel_rfl) (by kernel_rfl) (by exact fun _ _ _ h => h) (Or.inl ⟨by rfl, by intro w' hSw; (try dsimp only at hSw); first | (go_simp; done) | (go_simp; with_reducible rfl)⟩) hHeld ?_
  simp only [Act.put, List.setIfInBounds_toArray, List.set_cons_zero, List.set_cons_succ]
  refine wpAnyH_ready (rs := [5]) (by kernel_rfl) (by simp) ?_
  refine AllReadyH.cons rfl (fun K hK => ?_) AllReadyH.nil
  go_simp
  go_wp2_with fail
  refine (clone_any _ l (row_below HR.out HB0.out.drew (Nat.le_refl _)) (by omega)).mono ?_
  rintro r w1 ⟨v1, rfl, hr1, hb1⟩
  obtain ⟨a1, cap1, rfl, _⟩ := row_slice hr1
  have HR1 : Hid (Row w1 w0.heap.size (.slice a1 l.length cap1) l) := hr1
  have HB1 : Hid (Below w.heap.size w w1) := HB0.out.drew.trans (hb1.mono HB0.out.drew.size)
  have HY1 : (w1.heap[w.heap.size + 1]? = some (.cells #[.int .i64 0, .slice none 0 0] 26 (0, 0))) := (hb1.block _ (lt_of_heap (w := w0.drew) HY0.out)).trans HY0.out
  refine hK.out _ _ ⟨(hb1.cell (p := ⟨w.heap.size, 0, none⟩) (lt_of_cell hHeld.1)).trans hHeld.1, (hb1.cell (p := ⟨w.heap.size, 1, none⟩) (lt_of_cell hHeld.2)).trans hHeld.2⟩ (fun hHeld => ?_)
  clear hK K hr1 hb1
  refine wpAnyH_take (i := 6) (oi := _) (v := _) (by simp only [List.getElem?_toArray, List.getElem?_cons_succ, List.getElem?_cons_zero]; rfl) (by kernel_rfl) (by kernel_rfl) (by kernel_rfl) (by exact fun _ _ _ h => h) (Or.inl ⟨by rfl, by intro w' hSw; (try dsimp only at hSw); first | (go_simp; done) | (go_simp; with_reducible rfl)⟩) hHeld ?_
  simp only [Act.put, List.setIfInBounds_toArray, List.set_cons_zero, List.set_cons_succ]
  refine wpAnyH_ready (rs := [7]) (by kernel_rfl) (by simp) ?_
  refine AllReadyH.cons rfl (fun K hK => ?_) AllReadyH.nil
  obtain ⟨y0, y1, f0, f1⟩ := agg2 HY1
  go_simp
  refine hK.out _ _ ⟨?_, ?_⟩ (fun hHeld => ?_)
  · rw [World.cell?_setCell_other _ _ _ _ (by intro h; simp only [Addr.mk.injEq] at h; omega), World.cell?_setCell_other _ _ _ _ (by intro h; simp only [Addr.mk.injEq] at h; omega)]; exact hHeld.1
  · rw [World.cell?_setCell_other _ _ _ _ (by intro h; simp only [Addr.mk.injEq] at h; omega), World.cell?_setCell_other _ _ _ _ (by intro h; simp only [Addr.mk.injEq] at h; omega)]; exact hHeld.2
  clear hK K y0 y1 f0 f1
  refine wpAnyH_done (by kernel_rfl) ?_ _
  rw [show IntKind.i64.wrap (ver + 1) = ver + 1 from IntWalk.i64_in _ (by omega)]
  go_wp2
  refine bodyPost_ret (res_next _ (w.heap.size + 1) _ (ver + 1) a1 l.length cap1 rfl (set2_heap HY1 _ _)) rfl ?_
  refine ⟨_, rfl, ?_, set2_below HB1.out _ (by omega) _ _⟩
  have hlt := lt_of_heap HY0.out
  refine row_base (row_keep HR1.out (fun g e => set2_other ?_ _ _)) (by omega)
  have := row_ge HR1.out g e
  omega

end Go.Proofs.YtkfphmhnaelflacGreatDoor.Id
