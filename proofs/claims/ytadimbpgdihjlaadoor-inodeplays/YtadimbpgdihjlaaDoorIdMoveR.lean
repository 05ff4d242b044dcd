/-
  The document's Move. Condition: extents that lie below 2048.
-/
import Derived.Test.YtadimbpgdihjlaaDoorIdGrowR
namespace Go.Proofs.YtadimbpgdihjlaaDoor.Id
open Go.ChangeShapes Go.WideShapes Go.ChangeAt Go.RowKit Go.Proofs.Fa

variable {w : World} {B : Nat}
set_option maxRecDepth 100000
set_option maxHeartbeats 1000000

/-- What the document's Move answers. -/
def MoveAtR (w : World) (ver : Int) (l : List Ext) (i pos : Int) (r : Ending) (w' : World) : Prop :=
  (∃ ver' v' e', r = .returned (.tuple #[ino ver' v', Ext.agg e', .int .i64 (movE l i pos)]) ∧ (movE l i pos = 0 → ver' = ver + 1 ∧ RowR w' w.heap.size v' (movL l i.toNat pos) ∧ l[i.toNat]? = some e') ∧ (movE l i pos ≠ 0 → ver' = 0 ∧ v' = .slice none 0 0 ∧ e' = ⟨0, 0⟩)) ∧ Below w.heap.size w w'

theorem res_moveR (tm : Array Value) (rb : Nat) (W : World) (ver : Int) (a : Option Addr) (n c : Nat) (p q : Int) (er : Value) (h4 : tm[6]? = some (.pointer (some ⟨rb, 0, none⟩))) (h5 : tm[7]? = some (.pointer (some ⟨rb + 1, 0, none⟩))) (h6 : tm.getD 8 undef = er) (h : W.heap[rb]? = some (.cells #[.int .i64 ver, .slice a n c] 29 (0, 0))) (h' : W.heap[rb + 1]? = some (.cells #[.int .i64 p, .int .i64 q] 39 (0, 0))) :
    (results Tryd.f9 tm).run Tryd.prog W = .ok (.tuple #[ino ver (.slice a n c), .agg #[.int .i64 p, .int .i64 q], er]) W := by
  obtain ⟨c0, c1, _⟩ := agg2 h
  obtain ⟨c2, c3, _⟩ := agg2 h'
  clear h h'
  subst h6
  simp [results, Tryd.f9, go_sem, h4, h5, c0, c1, c2, c3, ino]

theorem moveR_any (ver : Int) (v : Value) (l : List Ext) (i pos : Int) (hr : RowR w B v l) (hn : l.length ≤ 36) (hl : OkL l) (hv : 0 ≤ ver ∧ ver < 1000000) :
    Calls Tryd.prog 9 #[ino ver v, .int .i64 i, .int .i64 pos] w fun r w' => MoveAtR w ver l i pos r w' := by
  have hfree := fun (w : World) hr (q : Int) => reffree_any (w := w) (B := B) ver v l pos q hr (by omega) hl
  obtain ⟨n, hln⟩ : ∃ n, l.length = n := ⟨_, rfl⟩
  obtain ⟨a, cap, hv0, hmx⟩ := row_slice hr
  rw [hln] at hv0 hmx hn
  subst hv0
  have HR : Hid (RowR w B (.slice a n cap) l) := hr
  have HL : Hid (OkL l) := hl
  clear hr hl
  simp only [ino] at *
  obtain ⟨w0, hw0⟩ : ∃ w0, w0 = ((w.alloc (Obj.cells #[.int .i64 ver, .slice a n cap] 29)).alloc (Obj.cells #[.int .i64 0, .slice none 0 0] 29)).alloc (Obj.cells #[.int .i64 0, .int .i64 0] 39) := ⟨_, rfl⟩
  have HB0 : Hid (Below w.heap.size w w0) := by rw [hw0]; exact (((Below.refl _ _).alloc (Nat.le_refl _) _).alloc (by simp) _).alloc (by simp; omega) _
  have HX0 : Hid (w0.heap[w.heap.size]? = some (.cells #[.int .i64 ver, .slice a n cap] 29 (0, 0))) := by
    rw [hw0]; exact ((Below.heap_alloc _ _ _ (by simp; omega)).trans (Below.heap_alloc _ _ _ (by simp))).trans (heap_alloc_new w _)
  have HY0 : Hid (w0.heap[w.heap.size + 1]? = some (.cells #[.int .i64 0, .slice none 0 0] 29 (0, 0))) := by
    rw [hw0]
    have := heap_alloc_new (w.alloc (Obj.cells #[.int .i64 ver, .slice a n cap] 29)) (Obj.cells #[.int .i64 0, .slice none 0 0] 29)
    rw [World.size_alloc] at this
    exact (Below.heap_alloc _ _ _ (by simp)).trans this
  have HE0 : Hid (w0.heap[w.heap.size + 2]? = some (.cells #[.int .i64 0, .int .i64 0] 39 (0, 0))) := by
    rw [hw0]
    have := heap_alloc_new ((w.alloc (Obj.cells #[.int .i64 ver, .slice a n cap] 29)).alloc (Obj.cells #[.int .i64 0, .slice none 0 0] 29)) (Obj.cells #[.int .i64 0, .int .i64 0] 39)
    rw [World.size_alloc, World.size_alloc] at this
    exact this
  by_cases hneg : i < 0
  · have HM : Hid (movE l i pos = 1) := by show _ = _; unfold movE; rw [if_pos hneg]
    have hneg' : decide (i < 0) = true := decide_eq_true hneg
    go_enter Tryd.func9, Tryd.ntmps9
    go_wp2_with fail
    rw [← hw0]
    clear hw0
    refine wp_region_held_drew (S := fun _ => True) (by kernel_rfl) (by exact True.intro) (fun hHeld => ?_)
    change wpAnyH _ _ _ _ _ 21 (Array.replicate 21 false) _ _
    refine wpAnyH_take (i := 0) (oi := _) (v := _) (by simp only [List.getElem?_toArray, List.getElem?_cons_zero]; rfl) (by kernel_rfl) (by kernel_rfl) (by kernel_rfl) (by exact fun _ _ _ h => h) (Or.inl ⟨by rfl, by intro w' hSw; (try dsimp only at hSw); first | (go_simp; done) | (go_simp; with_reducible rfl)⟩) hHeld ?_
    simp only [Act.put, List.setIfInBounds_toArray, List.set_cons_zero, List.set_cons_succ]
    refine wpAnyH_take (i := 1) (oi := _) (v := _) (by simp only [List.getElem?_toArray, List.getElem?_cons_succ, List.getElem?_cons_zero]; rfl) (by kernel_rfl) (by kernel_rfl) (by kernel_rfl) (by exact fun _ _ _ h => h) (Or.inl ⟨by rfl, by intro w' hSw; (try dsimp only at hSw); first | (go_simp; done) | (go_simp; with_reducible rfl)⟩) hHeld ?_
    simp only [Act.put, List.setIfInBounds_toArray, List.set_cons_zero, List.set_cons_succ]
    refine wpAnyH_take (i := 2) (oi := _) (v := _) (by simp only [List.getElem?_toArray, List.getElem?_cons_succ, List.getElem?_cons_zero]; rfl) (by kernel_rfl) (by kernel_rfl) (by kernel_rfl) (by exact fun _ _ _ h => h) (Or.inl ⟨by rfl, by intro w' hSw; (try dsimp only at hSw); first | (go_simp; done) | (go_simp; with_reducible rfl)⟩) hHeld ?_
    simp only [Act.put, List.setIfInBounds_toArray, List.set_cons_zero, List.set_cons_succ]
    refine wpAnyH_take (i := 3) (oi := _) (v := undef) (by simp only [List.getElem?_toArray, List.getElem?_cons_succ, List.getElem?_cons_zero]; rfl) (by kernel_rfl) (by kernel_rfl) (by kernel_rfl) (by exact fun _ _ _ h => h) (Or.inr ⟨by rfl, rfl⟩) hHeld ?_
    simp only [Act.put, List.setIfInBounds_toArray, List.set_cons_zero, List.set_cons_succ]
    refine wpAnyH_take (i := 4) (oi := _) (v := undef) (by simp only [List.getElem?_toArray, List.getElem?_cons_succ, List.getElem?_cons_zero]; rfl) (by kernel_rfl) (by kernel_rfl) (by kernel_rfl) (by exact fun _ _ _ h => h) (Or.inr ⟨by rfl, rfl⟩) hHeld ?_
    simp only [Act.put, List.setIfInBounds_toArray, List.set_cons_zero, List.set_cons_succ]
    refine wpAnyH_take (i := 5) (oi := _) (v := undef) (by simp only [List.getElem?_toArray, List.getElem?_cons_succ, List.getElem?_cons_zero]; rfl) (by kernel_rfl) (by kernel_rfl) (by kernel_rfl) (by exact fun _ _ _ h => h) (Or.inr ⟨by rfl, rfl⟩) hHeld ?_
    simp only [Act.put, List.setIfInBounds_toArray, List.set_cons_zero, List.set_cons_succ]
    refine wpAnyH_take (i := 6) (oi := _) (v := undef) (by simp only [List.getElem?_toArray, List.getElem?_cons_succ, List.getElem?_cons_zero]; rfl) (by kernel_rfl) (by kernel_rfl) (by kernel_rfl) (by exact fun _ _ _ h => h) (Or.inr ⟨by rfl, rfl⟩) hHeld ?_
    simp only [Act.put, List.setIfInBounds_toArray, List.set_cons_zero, List.set_cons_succ]
    refine wpAnyH_take (i := 7) (oi := _) (v := undef) (by simp only [List.getElem?_toArray, List.getElem?_cons_succ, List.getElem?_cons_zero]; rfl) (by kernel_rfl) (by kernel_rfl) (by kernel_rfl) (by exact fun _ _ _ h => h) (Or.inr ⟨by rfl, rfl⟩) hHeld ?_
    simp only [Act.put, List.setIfInBounds_toArray, List.set_cons_zero, List.set_cons_succ]
    refine wpAnyH_take (i := 8) (oi := _) (v := _) (by simp only [List.getElem?_toArray, List.getElem?_cons_succ, List.getElem?_cons_zero]; rfl) (by kernel_rfl) (by kernel_rfl) (by kernel_rfl) (by exact fun _ _ _ h => h) (Or.inl ⟨by rfl, by intro w' hSw; (try dsimp only at hSw); first | (go_simp; done) | (go_simp; with_reducible rfl)⟩) hHeld ?_
    simp only [Act.put, List.setIfInBounds_toArray, List.set_cons_zero, List.set_cons_succ]
    refine wpAnyH_take (i := 9) (oi := _) (v := _) (by simp only [List.getElem?_toArray, List.getElem?_cons_succ, List.getElem?_cons_zero]; rfl) (by kernel_rfl) (by kernel_rfl) (by kernel_rfl) (by exact fun _ _ _ h => h) (Or.inl ⟨by rfl, by intro w' hSw; (try dsimp only at hSw); first | (go_simp; done) | (go_simp; with_reducible rfl)⟩) hHeld ?_
    simp only [Act.put, List.setIfInBounds_toArray, List.set_cons_zero, List.set_cons_succ]
    refine wpAnyH_take (i := 10) (oi := _) (v := undef) (by simp only [List.getElem?_toArray, List.getElem?_cons_succ, List.getElem?_cons_zero]; rfl) (by kernel_rfl) (by kernel_rfl) (by kernel_rfl) (by exact fun _ _ _ h => h) (Or.inr ⟨by rfl, rfl⟩) hHeld ?_
    simp only [Act.put, List.setIfInBounds_toArray, List.set_cons_zero, List.set_cons_succ]
    refine wpAnyH_take (i := 11) (oi := _) (v := undef) (by simp only [List.getElem?_toArray, List.getElem?_cons_succ, List.getElem?_cons_zero]; rfl) (by kernel_rfl) (by kernel_rfl) (by kernel_rfl) (by exact fun _ _ _ h => h) (Or.inr ⟨by rfl, rfl⟩) hHeld ?_
    simp only [Act.put, List.setIfInBounds_toArray, List.set_cons_zero, List.set_cons_succ]
    refine wpAnyH_take (i := 12) (oi := _) (v := undef) (by simp only [List.getElem?_toArray, List.getElem?_cons_succ, List.getElem?_cons_zero]; rfl) (by kernel_rfl) (by kernel_rfl) (by kernel_rfl) (by exact fun _ _ _ h => h) (Or.inr ⟨by rfl, rfl⟩) hHeld ?_
    simp only [Act.put, List.setIfInBounds_toArray, List.set_cons_zero, List.set_cons_succ]
    refine wpAnyH_take (i := 13) (oi := _) (v := undef) (by simp only [List.getElem?_toArray, List.getElem?_cons_succ, List.getElem?_cons_zero]; rfl) (by kernel_rfl) (by kernel_rfl) (by kernel_rfl) (by exact fun _ _ _ h => h) (Or.inr ⟨by rfl, rfl⟩) hHeld ?_
    simp only [Act.put, List.setIfInBounds_toArray, List.set_cons_zero, List.set_cons_succ]
    refine wpAnyH_take (i := 14) (oi := _) (v := undef) (by simp only [List.getElem?_toArray, List.getElem?_cons_succ, List.getElem?_cons_zero]; rfl) (by kernel_rfl) (by kernel_rfl) (by kernel_rfl) (by exact fun _ _ _ h => h) (Or.inr ⟨by rfl, rfl⟩) hHeld ?_
    simp only [Act.put, List.setIfInBounds_toArray, List.set_cons_zero, List.set_cons_succ]
    refine wpAnyH_take (i := 15) (oi := _) (v := undef) (by simp only [List.getElem?_toArray, List.getElem?_cons_succ, List.getElem?_cons_zero]; rfl) (by kernel_rfl) (by kernel_rfl) (by kernel_rfl) (by exact fun _ _ _ h => h) (Or.inr ⟨by rfl, rfl⟩) hHeld ?_
    simp only [Act.put, List.setIfInBounds_toArray, List.set_cons_zero, List.set_cons_succ]
    refine wpAnyH_take (i := 16) (oi := _) (v := undef) (by simp only [List.getElem?_toArray, List.getElem?_cons_succ, List.getElem?_cons_zero]; rfl) (by kernel_rfl) (by kernel_rfl) (by kernel_rfl) (by exact fun _ _ _ h => h) (Or.inr ⟨by rfl, rfl⟩) hHeld ?_
    simp only [Act.put, List.setIfInBounds_toArray, List.set_cons_zero, List.set_cons_succ]
    refine wpAnyH_take (i := 17) (oi := _) (v := undef) (by simp only [List.getElem?_toArray, List.getElem?_cons_succ, List.getElem?_cons_zero]; rfl) (by kernel_rfl) (by kernel_rfl) (by kernel_rfl) (by exact fun _ _ _ h => h) (Or.inr ⟨by rfl, rfl⟩) hHeld ?_
    simp only [Act.put, List.setIfInBounds_toArray, List.set_cons_zero, List.set_cons_succ]
    refine wpAnyH_take (i := 18) (oi := _) (v := undef) (by simp only [List.getElem?_toArray, List.getElem?_cons_succ, List.getElem?_cons_zero]; rfl) (by kernel_rfl) (by kernel_rfl) (by kernel_rfl) (by exact fun _ _ _ h => h) (Or.inr ⟨by rfl, rfl⟩) hHeld ?_
    simp only [Act.put, List.setIfInBounds_toArray, List.set_cons_zero, List.set_cons_succ]
    refine wpAnyH_take (i := 19) (oi := _) (v := undef) (by simp only [List.getElem?_toArray, List.getElem?_cons_succ, List.getElem?_cons_zero]; rfl) (by kernel_rfl) (by kernel_rfl) (by kernel_rfl) (by exact fun _ _ _ h => h) (Or.inr ⟨by rfl, rfl⟩) hHeld ?_
    simp only [Act.put, List.setIfInBounds_toArray, List.set_cons_zero, List.set_cons_succ]
    refine wpAnyH_take (i := 20) (oi := _) (v := _) (by simp only [List.getElem?_toArray, List.getElem?_cons_succ, List.getElem?_cons_zero]; rfl) (by kernel_rfl) (by kernel_rfl) (by kernel_rfl) (by exact fun _ _ _ h => h) (Or.inl ⟨by rfl, by intro w' hSw; (try dsimp only at hSw); first | (go_simp; done) | (go_simp; with_reducible rfl)⟩) hHeld ?_
    simp only [Act.put, List.setIfInBounds_toArray, List.set_cons_zero, List.set_cons_succ]
    refine wpAnyH_done (by kernel_rfl) ?_ _
    have HYd : w0.drew.heap[w.heap.size + 1]? = some (.cells #[.int .i64 0, .slice none 0 0] 29 (0, 0)) := HY0.out
    have HEd : ((w0.drew.setCell ⟨w.heap.size + 1, 0, none⟩ (.int .i64 0)).setCell ⟨w.heap.size + 1, 1, none⟩ (.slice none 0 0)).heap[w.heap.size + 1 + 1]? = some (.cells #[.int .i64 0, .int .i64 0] 39 (0, 0)) := (set2_other (by omega) _ _).trans HE0.out
    have HYd' : Hid (_ = _) := HYd
    have HEd' : Hid (_ = _) := HEd
    have HBd : Hid (Below w.heap.size w w0.drew) := HB0.out.drew
    obtain ⟨y0, y1, f0, f1⟩ := agg2 HYd
    obtain ⟨v0, v1, v2, v3⟩ := agg2 HEd
    clear HYd HEd HB0 HY0 HE0 HX0
    generalize w0.drew = wd at *
    go_wp2
    refine bodyPost_ret (res_moveR _ (w.heap.size + 1) _ 0 none 0 0 0 0 _ rfl rfl rfl ((set2_other (by omega) _ _).trans (set2_heap HYd'.out _ _)) (set2_heap HEd'.out _ _)) rfl ?_
    exact ⟨⟨0, .slice none 0 0, ⟨0, 0⟩, by rw [HM.out]; rfl, (fun h => by rw [HM.out] at h; cases h), fun _ => ⟨rfl, rfl, rfl⟩⟩, set2_below (set2_below HBd.out _ (by omega) _ _) _ (by omega) _ _⟩
  · obtain ⟨k, rfl⟩ : ∃ k : Nat, i = k := ⟨i.toNat, by omega⟩
    have hneg' : decide ((k : Int) < 0) = false := decide_eq_false hneg
    obtain ⟨x0, x1, x2, x3⟩ := agg2 HX0.out
    by_cases hlt : k < n
    · have hRk : RowR w0 B _ l := row_below HR.out HB0.out (Nat.le_refl _)
      obtain ⟨g, cap', he⟩ := row_some hRk (by omega)
      rw [hln] at he
      cases he
      obtain ⟨e0, e1⟩ := hRk.ext k (by omega)
      clear hRk
      have hkl : k < l.length := by omega
      have HKE : Hid (l[k]? = some l[k]) := List.getElem?_eq_getElem hkl
      have hME : movE l k pos = if mayF l ⟨pos, l[k].len⟩ = true then 0 else 1 := by unfold movE; rw [if_neg hneg, Int.toNat_natCast, HKE.out]
      have HMC : Hid ((ecells l).set (k * 2) (.int .i64 pos) = ecells (movL l k pos)) := movL_cells l k pos hkl
      clear hneg
      have HKL : Hid (∀ W, RowR W B (.slice (some ⟨g, 0, none⟩) n cap) l → W.cell? ⟨g, k * 2, none⟩ = some (.int .i64 l[k].pos) ∧ W.cell? ⟨g, k * 2 + 1, none⟩ = some (.int .i64 l[k].len)) := fun W h => RowR.ext h k hkl
      generalize l[k] = y at *
      obtain ⟨yp, yl⟩ := y
      dsimp only at e0 e1 hME HKL
      have hlt1 : ((n : Int) ≤ (k : Int)) = False := by simp; omega
      have hlt2 : decide ((n : Int) ≤ (k : Int)) = false := decide_eq_false (by omega)
      have hlt3 : decide (n ≤ k) = false := decide_eq_false (by omega)
      have hglt : g < w.heap.size := row_lt HR.out g rfl
      go_enter Tryd.func9, Tryd.ntmps9
      go_wp2_with fail
      rw [← hw0]
      clear hw0
      refine wp_region_held_drew (S := fun W => W.cell? ⟨w.heap.size, 0, none⟩ = some (.int .i64 ver) ∧ W.cell? ⟨w.heap.size, 1, none⟩ = some (.slice (some ⟨g, 0, none⟩) n cap) ∧ W.cell? ⟨g, k * 2 + 1, none⟩ = some (.int .i64 yl)) (by kernel_rfl) (by exact ⟨x0, x1, e1⟩) (fun hHeld => ?_)
      change wpAnyH _ _ _ _ _ 21 (Array.replicate 21 false) _ _
      refine wpAnyH_take (i := 0) (oi := _) (v := _) (by simp only [List.getElem?_toArray, List.getElem?_cons_zero]; rfl) (by kernel_rfl) (by kernel_rfl) (by kernel_rfl) (by exact fun _ _ _ h => h) (Or.inl ⟨by rfl, by intro w' hSw; (try dsimp only at hSw); first | (go_simp; done) | (go_simp; with_reducible rfl)⟩) hHeld ?_
      simp only [Act.put, List.setIfInBounds_toArray, List.set_cons_zero, List.set_cons_succ]
      refine wpAnyH_take (i := 1) (oi := _) (v := _) (by simp only [List.getElem?_toArray, List.getElem?_cons_succ, List.getElem?_cons_zero]; rfl) (by kernel_rfl) (by kernel_rfl) (by kernel_rfl) (by exact fun _ _ _ h => h) (Or.inl ⟨by rfl, by intro w' hSw; (try dsimp only at hSw); first | (go_simp; done) | (go_simp; with_reducible rfl)⟩) hHeld ?_
      simp only [Act.put, List.setIfInBounds_toArray, List.set_cons_zero, List.set_cons_succ]
      refine wpAnyH_take (i := 2) (oi := _) (v := _) (by simp only [List.getElem?_toArray, List.getElem?_cons_succ, List.getElem?_cons_zero]; rfl) (by kernel_rfl) (by kernel_rfl) (by kernel_rfl) (by exact fun _ _ _ h => h) (Or.inl ⟨by rfl, by intro w' hSw; (try dsimp only at hSw); first | (go_simp; done) | (go_simp; with_reducible rfl)⟩) hHeld ?_
      simp only [Act.put, List.setIfInBounds_toArray, List.set_cons_zero, List.set_cons_succ]
      refine wpAnyH_take (i := 3) (oi := _) (v := _) (by simp only [List.getElem?_toArray, List.getElem?_cons_succ, List.getElem?_cons_zero]; rfl) (by kernel_rfl) (by kernel_rfl) (by kernel_rfl) (by exact fun _ _ _ h => h) (Or.inl ⟨by rfl, by intro w' hSw; (try dsimp only at hSw); first | (go_simp; done) | (go_simp; with_reducible rfl)⟩) hHeld ?_
      simp only [Act.put, List.setIfInBounds_toArray, List.set_cons_zero, List.set_cons_succ]
      refine wpAnyH_take (i := 4) (oi := _) (v := _) (by simp only [List.getElem?_toArray, List.getElem?_cons_succ, List.getElem?_cons_zero]; rfl) (by kernel_rfl) (by kernel_rfl) (by kernel_rfl) (by exact fun _ _ _ h => h) (Or.inl ⟨by rfl, by intro w' hSw; (try dsimp only at hSw); first | (go_simp; done) | (go_simp; with_reducible rfl)⟩) hHeld ?_
      simp only [Act.put, List.setIfInBounds_toArray, List.set_cons_zero, List.set_cons_succ]
      refine wpAnyH_take (i := 5) (oi := _) (v := _) (by simp only [List.getElem?_toArray, List.getElem?_cons_succ, List.getElem?_cons_zero]; rfl) (by kernel_rfl) (by kernel_rfl) (by kernel_rfl) (by exact fun _ _ _ h => h) (Or.inl ⟨by rfl, by intro w' hSw; (try dsimp only at hSw); first | (go_simp; done) | (go_simp; with_reducible rfl)⟩) hHeld ?_
      simp only [Act.put, List.setIfInBounds_toArray, List.set_cons_zero, List.set_cons_succ]
      refine wpAnyH_take (i := 6) (oi := _) (v := _) (by simp only [List.getElem?_toArray, List.getElem?_cons_succ, List.getElem?_cons_zero]; rfl) (by kernel_rfl) (by kernel_rfl) (by kernel_rfl) (by exact fun _ _ _ h => h) (Or.inl ⟨by rfl, by intro w' hSw; (try dsimp only at hSw); first | (go_simp; done) | (go_simp; with_reducible rfl)⟩) hHeld ?_
      simp only [Act.put, List.setIfInBounds_toArray, List.set_cons_zero, List.set_cons_succ]
      refine wpAnyH_take (i := 7) (oi := _) (v := _) (by simp only [List.getElem?_toArray, List.getElem?_cons_succ, List.getElem?_cons_zero]; rfl) (by kernel_rfl) (by kernel_rfl) (by kernel_rfl) (by exact fun _ _ _ h => h) (Or.inl ⟨by rfl, by intro w' hSw; (try dsimp only at hSw); first | (go_simp; done) | (go_simp; with_reducible rfl)⟩) hHeld ?_
      simp only [Act.put, List.setIfInBounds_toArray, List.set_cons_zero, List.set_cons_succ]
      refine wpAnyH_take (i := 8) (oi := _) (v := _) (by simp only [List.getElem?_toArray, List.getElem?_cons_succ, List.getElem?_cons_zero]; rfl) (by kernel_rfl) (by kernel_rfl) (by kernel_rfl) (by exact fun _ _ _ h => h) (Or.inl ⟨by rfl, by intro w' hSw; (try dsimp only at hSw); first | (go_simp; done) | (go_simp; with_reducible rfl)⟩) hHeld ?_
      simp only [Act.put, List.setIfInBounds_toArray, List.set_cons_zero, List.set_cons_succ]
      refine wpAnyH_take (i := 9) (oi := _) (v := _) (by simp only [List.getElem?_toArray, List.getElem?_cons_succ, List.getElem?_cons_zero]; rfl) (by kernel_rfl) (by kernel_rfl) (by kernel_rfl) (by exact fun _ _ _ h => h) (Or.inl ⟨by rfl, by intro w' hSw; (try dsimp only at hSw); first | (go_simp; done) | (go_simp; with_reducible rfl)⟩) hHeld ?_
      simp only [Act.put, List.setIfInBounds_toArray, List.set_cons_zero, List.set_cons_succ]
      refine wpAnyH_take (i := 10) (oi := _) (v := _) (by simp only [List.getElem?_toArray, List.getElem?_cons_succ, List.getElem?_cons_zero]; rfl) (by kernel_rfl) (by kernel_rfl) (by kernel_rfl) (by exact fun _ _ _ h => h) (Or.inl ⟨by rfl, by intro w' hSw; (try dsimp only at hSw); first | (go_simp; done) | (go_simp; with_reducible rfl)⟩) hHeld ?_
      simp only [Act.put, List.setIfInBounds_toArray, List.set_cons_zero, List.set_cons_succ]
      refine wpAnyH_take (i := 11) (oi := _) (v := _) (by simp only [List.getElem?_toArray, List.getElem?_cons_succ, List.getElem?_cons_zero]; rfl) (by kernel_rfl) (by kernel_rfl) (by kernel_rfl) (by exact fun _ _ _ h => h) (Or.inl ⟨by rfl, by intro w' hSw; (try dsimp only at hSw); first | (go_simp; done) | (go_simp; with_reducible rfl)⟩) hHeld ?_
      simp only [Act.put, List.setIfInBounds_toArray, List.set_cons_zero, List.set_cons_succ]
      refine wpAnyH_take (i := 12) (oi := _) (v := _) (by simp only [List.getElem?_toArray, List.getElem?_cons_succ, List.getElem?_cons_zero]; rfl) (by kernel_rfl) (by kernel_rfl) (by kernel_rfl) (by exact fun _ _ _ h => h) (Or.inl ⟨by rfl, by intro w' hSw; (try dsimp only at hSw); first | (go_simp; done) | (go_simp; with_reducible rfl)⟩) hHeld ?_
      simp only [Act.put, List.setIfInBounds_toArray, List.set_cons_zero, List.set_cons_succ]
      refine wpAnyH_take (i := 13) (oi := _) (v := _) (by simp only [List.getElem?_toArray, List.getElem?_cons_succ, List.getElem?_cons_zero]; rfl) (by kernel_rfl) (by kernel_rfl) (by kernel_rfl) (by exact fun _ _ _ h => h) (Or.inl ⟨by rfl, by intro w' hSw; (try dsimp only at hSw); first | (go_simp; done) | (go_simp; with_reducible rfl)⟩) hHeld ?_
      simp only [Act.put, List.setIfInBounds_toArray, List.set_cons_zero, List.set_cons_succ]
      refine wpAnyH_take (i := 14) (oi := _) (v := _) (by simp only [List.getElem?_toArray, List.getElem?_cons_succ, List.getElem?_cons_zero]; rfl) (by kernel_rfl) (by kernel_rfl) (by kernel_rfl) (by exact fun _ _ _ h => h) (Or.inl ⟨by rfl, by intro w' hSw; (try dsimp only at hSw); first | (go_simp; done) | (go_simp; with_reducible rfl)⟩) hHeld ?_
      simp only [Act.put, List.setIfInBounds_toArray, List.set_cons_zero, List.set_cons_succ]
      refine wpAnyH_take (i := 15) (oi := _) (v := _) (by simp only [List.getElem?_toArray, List.getElem?_cons_succ, List.getElem?_cons_zero]; rfl) (by kernel_rfl) (by kernel_rfl) (by kernel_rfl) (by exact fun _ _ _ h => h) (Or.inl ⟨by rfl, by intro w' hSw; (try dsimp only at hSw); first | (go_simp; done) | (go_simp; with_reducible rfl)⟩) hHeld ?_
      simp only [Act.put, List.setIfInBounds_toArray, List.set_cons_zero, List.set_cons_succ]
      refine wpAnyH_take (i := 16) (oi := _) (v := _) (by simp only [List.getElem?_toArray, List.getElem?_cons_succ, List.getElem?_cons_zero]; rfl) (by kernel_rfl) (by kernel_rfl) (by kernel_rfl) (by exact fun _ _ _ h => h) (Or.inl ⟨by rfl, by intro w' hSw; (try dsimp only at hSw); first | (go_simp; done) | (go_simp; with_reducible rfl)⟩) hHeld ?_
      simp only [Act.put, List.setIfInBounds_toArray, List.set_cons_zero, List.set_cons_succ]
      refine wpAnyH_take (i := 17) (oi := _) (v := _) (by simp only [List.getElem?_toArray, List.getElem?_cons_succ, List.getElem?_cons_zero]; rfl) (by kernel_rfl) (by kernel_rfl) (by kernel_rfl) (by exact fun _ _ _ h => h) (Or.inl ⟨by rfl, by intro w' hSw; (try dsimp only at hSw); first | (go_simp; done) | (go_simp; with_reducible rfl)⟩) hHeld ?_
      simp only [Act.put, List.setIfInBounds_toArray, List.set_cons_zero, List.set_cons_succ]
      refine wpAnyH_ready (rs := [18]) (by kernel_rfl) (by simp) ?_
      refine AllReadyH.cons rfl (fun K hK => ?_) AllReadyH.nil
      go_simp
      go_wp2_with fail
      refine (hfree _ (row_below HR.out HB0.out.drew (Nat.le_refl _)) yl).mono ?_
      rintro r w1 ⟨rfl, hb1⟩
      have HB1 : Hid (Below w.heap.size w w1) := HB0.out.drew.trans (hb1.mono HB0.out.drew.size)
      have HX1 : Hid (w1.heap[w.heap.size]? = some (.cells #[.int .i64 ver, .slice (some ⟨g, 0, none⟩) n cap] 29 (0, 0))) := (hb1.block _ (lt_of_heap (w := w0.drew) HX0.out)).trans HX0.out
      have HY1 : Hid (w1.heap[w.heap.size + 1]? = some (.cells #[.int .i64 0, .slice none 0 0] 29 (0, 0))) := (hb1.block _ (lt_of_heap (w := w0.drew) HY0.out)).trans HY0.out
      have HE1 : Hid (w1.heap[w.heap.size + 2]? = some (.cells #[.int .i64 0, .int .i64 0] 39 (0, 0))) := (hb1.block _ (lt_of_heap (w := w0.drew) HE0.out)).trans HE0.out
      refine hK.out _ _ ⟨(hb1.cell (p := ⟨w.heap.size, 0, none⟩) (lt_of_cell hHeld.1)).trans hHeld.1, (hb1.cell (p := ⟨w.heap.size, 1, none⟩) (lt_of_cell hHeld.2.1)).trans hHeld.2.1, (hb1.cell (p := ⟨g, k * 2 + 1, none⟩) (lt_of_cell hHeld.2.2)).trans hHeld.2.2⟩ (fun hHeld => ?_)
      clear hK K hb1
      refine wpAnyH_take (i := 19) (oi := _) (v := _) (by simp only [List.getElem?_toArray, List.getElem?_cons_succ, List.getElem?_cons_zero]; rfl) (by kernel_rfl) (by kernel_rfl) (by kernel_rfl) (by exact fun _ _ _ h => h) (Or.inl ⟨by rfl, by intro w' hSw; (try dsimp only at hSw); first | (go_simp; done) | (go_simp; with_reducible rfl)⟩) hHeld ?_
      simp only [Act.put, List.setIfInBounds_toArray, List.set_cons_zero, List.set_cons_succ]
      refine wpAnyH_take (i := 20) (oi := _) (v := _) (by simp only [List.getElem?_toArray, List.getElem?_cons_succ, List.getElem?_cons_zero]; rfl) (by kernel_rfl) (by kernel_rfl) (by kernel_rfl) (by exact fun _ _ _ h => h) (Or.inl ⟨by rfl, by intro w' hSw; (try dsimp only at hSw); first | (go_simp; done) | (go_simp; with_reducible rfl)⟩) hHeld ?_
      simp only [Act.put, List.setIfInBounds_toArray, List.set_cons_zero, List.set_cons_succ]
      refine wpAnyH_done (by kernel_rfl) ?_ _
      clear hHeld hfree HB0 HX0 HY0 HE0 x0 x1 x2 x3 e0 e1
      obtain ⟨x0, x1, x2, x3⟩ := agg2 HX1.out
      obtain ⟨e0, e1⟩ := HKL.out w1 (row_below HR.out HB1.out (Nat.le_refl _))
      cases hm : mayF l ⟨pos, yl⟩
      · have HM : Hid (movE l k pos = 1) := by show _ = _; rw [hME, hm]; rfl
        clear hME
        obtain ⟨y0, y1, f0, f1⟩ := agg2 HY1.out
        have HE6 : ((w1.setCell ⟨w.heap.size + 1, 0, none⟩ (.int .i64 0)).setCell ⟨w.heap.size + 1, 1, none⟩ (.slice none 0 0)).heap[w.heap.size + 1 + 1]? = some (.cells #[.int .i64 0, .int .i64 0] 39 (0, 0)) := (set2_other (by omega) _ _).trans HE1.out
        obtain ⟨v0, v1, v2, v3⟩ := agg2 HE6
        go_wp2
        refine bodyPost_ret (res_moveR _ (w.heap.size + 1) _ 0 none 0 0 0 0 _ rfl rfl rfl ((set2_other (by omega) _ _).trans (set2_heap HY1.out _ _)) (set2_heap HE6 _ _)) rfl ?_
        exact ⟨⟨0, .slice none 0 0, ⟨0, 0⟩, by rw [HM.out]; rfl, (fun h => by rw [HM.out] at h; cases h), fun _ => ⟨rfl, rfl, rfl⟩⟩, set2_below (set2_below HB1.out _ (by omega) _ _) _ (by omega) _ _⟩
      · have HM : Hid (movE l k pos = 0) := by show _ = _; rw [hME, hm]; rfl
        clear hME
        have HWR : Hid (IntKind.i64.wrap (ver + 1) = ver + 1) := IntWalk.i64_in _ (by omega)
        go_wp2_with fail
        refine wp_region_held_drew (S := fun W => W.cell? ⟨w.heap.size, 0, none⟩ = some (.int .i64 ver) ∧ W.cell? ⟨w.heap.size, 1, none⟩ = some (.slice (some ⟨g, 0, none⟩) n cap)) (by kernel_rfl) (by exact ⟨x0, x1⟩) (fun hHeld => ?_)
        change wpAnyH _ _ _ _ _ 10 (Array.replicate 10 false) _ _
        refine wpAnyH_take (i := 0) (oi := _) (v := _) (by simp only [List.getElem?_toArray, List.getElem?_cons_zero]; rfl) (by kernel_rfl) (by kernel_rfl) (by kernel_rfl) (by exact fun _ _ _ h => h) (Or.inl ⟨by rfl, by intro w' hSw; (try dsimp only at hSw); first | (go_simp; done) | (go_simp; with_reducible rfl)⟩) hHeld ?_
        simp only [Act.put, List.setIfInBounds_toArray, List.set_cons_zero, List.set_cons_succ]
        refine wpAnyH_take (i := 1) (oi := _) (v := _) (by simp only [List.getElem?_toArray, List.getElem?_cons_succ, List.getElem?_cons_zero]; rfl) (by kernel_rfl) (by kernel_rfl) (by kernel_rfl) (by exact fun _ _ _ h => h) (Or.inl ⟨by rfl, by intro w' hSw; (try dsimp only at hSw); first | (go_simp; done) | (go_simp; with_reducible rfl)⟩) hHeld ?_
        simp only [Act.put, List.setIfInBounds_toArray, List.set_cons_zero, List.set_cons_succ]
        refine wpAnyH_take (i := 2) (oi := _) (v := _) (by simp only [List.getElem?_toArray, List.getElem?_cons_succ, List.getElem?_cons_zero]; rfl) (by kernel_rfl) (by kernel_rfl) (by kernel_rfl) (by exact fun _ _ _ h => h) (Or.inl ⟨by rfl, by intro w' hSw; (try dsimp only at hSw); first | (go_simp; done) | (go_simp; with_reducible rfl)⟩) hHeld ?_
        simp only [Act.put, List.setIfInBounds_toArray, List.set_cons_zero, List.set_cons_succ]
        refine wpAnyH_take (i := 4) (oi := _) (v := _) (by simp only [List.getElem?_toArray, List.getElem?_cons_succ, List.getElem?_cons_zero]; rfl) (by kernel_rfl) (by kernel_rfl) (by kernel_rfl) (by exact fun _ _ _ h => h) (Or.inl ⟨by rfl, by intro w' hSw; (try dsimp only at hSw); first | (go_simp; done) | (go_simp; with_reducible rfl)⟩) hHeld ?_
        simp only [Act.put, List.setIfInBounds_toArray, List.set_cons_zero, List.set_cons_succ]
        refine wpAnyH_take (i := 5) (oi := _) (v := _) (by simp only [List.getElem?_toArray, List.getElem?_cons_succ, List.getElem?_cons_zero]; rfl) (by kernel_rfl) (by kernel_rfl) (by kernel_rfl) (by exact fun _ _ _ h => h) (Or.inl ⟨by rfl, by intro w' hSw; (try dsimp only at hSw); first | (go_simp; done) | (go_simp; with_reducible rfl)⟩) hHeld ?_
        simp only [Act.put, List.setIfInBounds_toArray, List.set_cons_zero, List.set_cons_succ]
        have hd0 : Below w1.heap.size w1 w1.drew := (Below.refl _ _).drew
        refine wpAnyH_ready (rs := [3, 8]) (by kernel_rfl) (by simp) ?_
        refine (AllReadyH.cons rfl (fun K hK => ?_) (AllReadyH.cons rfl (fun K hK => ?_) AllReadyH.nil))
        · skip
          go_simp
          go_wp2_with fail
          obtain ⟨WA, hWA⟩ : ∃ W, W = (w1.alloc (Obj.cells #[] 39)).drew := ⟨_, rfl⟩
          have hbA : Below w1.heap.size w1 WA := by rw [hWA]; exact ((Below.refl _ _).alloc (Nat.le_refl _) _).drew
          rw [← hWA]
          refine hK.out _ _ ⟨(hbA.cell (p := ⟨w.heap.size, 0, none⟩) (lt_of_cell x0)).trans x0, (hbA.cell (p := ⟨w.heap.size, 1, none⟩) (lt_of_cell x1)).trans x1⟩ (fun hHeld => ?_)
          clear hK K
          have hlA : WA.heap[w1.heap.size]? = some (.cells #[] 39 (0, 0)) := by rw [hWA]; exact heap_alloc_new _ _
          have hsA : WA.heap.size = w1.heap.size + 1 := by rw [hWA]; simp
          clear hWA
          refine wpAnyH_ready (rs := [6, 8]) (by kernel_rfl) (by simp) ?_
          refine (AllReadyH.cons (o := _) (by simp only [List.getElem?_toArray, List.getElem?_cons_succ, List.getElem?_cons_zero]; rfl) (fun K hK => ?_) (AllReadyH.cons (o := _) (by simp only [List.getElem?_toArray, List.getElem?_cons_succ, List.getElem?_cons_zero]; rfl) (fun K hK => ?_) AllReadyH.nil))
          · skip
            obtain ⟨v2, WB, hrun, hrow, hg, hnr⟩ := copyR_run (W := WA) (B := B) (gb := w1.heap.size) (B0 := w1.heap.size) (.slice (some ⟨g, 0, none⟩) n cap) l (row_below (row_below HR.out HB1.out (Nat.le_refl _)) hbA (Nat.le_refl _)) (by omega) hlA (Nat.le_refl _) 27
            refine wpH_app (by rfl) rfl rfl rfl hrun ?_
            obtain ⟨a2, cap2, hv2, _⟩ := row_slice hrow
            rw [hln] at hv2
            subst hv2
            have hbB : Below w1.heap.size w1 WB := hbA.grown hg hbA.size (fun k e => by cases e; first | omega | exact Nat.le_refl _)
            refine hK.out _ _ ⟨(hbB.cell (p := ⟨w.heap.size, 0, none⟩) (lt_of_cell x0)).trans x0, (hbB.cell (p := ⟨w.heap.size, 1, none⟩) (lt_of_cell x1)).trans x1⟩ (fun hHeld => ?_)
            clear hK K
            simp only [Act.put, List.setIfInBounds_toArray, List.set_cons_zero, List.set_cons_succ]
            refine wpAnyH_take (i := 7) (oi := _) (v := _) (by simp only [List.getElem?_toArray, List.getElem?_cons_succ, List.getElem?_cons_zero]; rfl) (by kernel_rfl) (by kernel_rfl) (by kernel_rfl) (by exact fun _ _ _ h => h) (Or.inl ⟨by rfl, by intro w' hSw; (try dsimp only at hSw); first | (go_simp; done) | (go_simp; with_reducible rfl)⟩) hHeld ?_
            simp only [Act.put, List.setIfInBounds_toArray, List.set_cons_zero, List.set_cons_succ]
            have hwb := row_lt hrow
            refine wpAnyH_ready (rs := [8]) (by kernel_rfl) (by simp) ?_
            refine AllReadyH.cons rfl (fun K hK => ?_) AllReadyH.nil
            go_simp
            go_wp2_with fail
            refine hK.out _ _ (by have hq : Below w1.heap.size w1 (WB.alloc (Obj.cells #[.int .i64 0, .slice none 0 0] 29)) := hbB.alloc hbB.size _; exact ⟨(hq.cell (p := ⟨w.heap.size, 0, none⟩) (lt_of_cell x0)).trans x0, (hq.cell (p := ⟨w.heap.size, 1, none⟩) (lt_of_cell x1)).trans x1⟩) (fun hHeld => ?_)
            clear hK K
            refine wpAnyH_ready (rs := [9]) (by kernel_rfl) (by simp) ?_
            refine AllReadyH.cons rfl (fun K hK => ?_) AllReadyH.nil
            simp only [HWR.out]
            go_simp
            go_wp2_with fail
            refine hK.out _ _ (by have hq : Below w1.heap.size w1 ((WB).alloc (Obj.cells #[.int .i64 (ver + 1), .slice a2 n cap2] 29)) := hbB.alloc hbB.size _; exact ⟨(hq.cell (p := ⟨w.heap.size, 0, none⟩) (lt_of_cell x0)).trans x0, (hq.cell (p := ⟨w.heap.size, 1, none⟩) (lt_of_cell x1)).trans x1⟩) (fun hHeld => ?_)
            clear hK K
            refine wpAnyH_done (by kernel_rfl) ?_ _
            have hdone : OutR w1 (WB.alloc (Obj.cells #[.int .i64 (ver + 1), .slice a2 n cap2] 29)) (WB.heap.size) (ver + 1) (.slice a2 n cap2) l := ⟨heap_alloc_new _ _, World.ownsRow.alloc hrow _, hbB.alloc hbB.size _, hbB.size, fun i e => by have := hwb i e; omega⟩
            obtain ⟨WZ, hWZ⟩ : ∃ W, W = WB.alloc (Obj.cells #[.int .i64 (ver + 1), .slice a2 n cap2] 29) := ⟨_, rfl⟩
            obtain ⟨yb, hyb⟩ : ∃ k, k = WB.heap.size := ⟨_, rfl⟩
            rw [← hWZ, ← hyb] at hdone
            rw [← hWZ]
            try rw [← hyb]
            have HO : Hid (OutR w1 WZ yb (ver + 1) (.slice a2 n cap2) l) := hdone
            clear hdone hWZ hyb
            try clear hg hnr
            try clear hyz hyz0 hne
            obtain ⟨g2, cap', hv2⟩ := row_some HO.out.row (by omega)
            rw [hln] at hv2
            cases hv2
            have HBZ : Hid (Below w.heap.size w WZ) := HB1.out.trans (HO.out.below.mono HB1.out.size)
            have HX : Hid (WZ.heap[w.heap.size]? = some (.cells #[.int .i64 ver, .slice (some ⟨g, 0, none⟩) n cap] 29 (0, 0))) := (HO.out.below.block _ (lt_of_heap HX1.out)).trans HX1.out
            have HY : Hid (WZ.heap[w.heap.size + 1]? = some (.cells #[.int .i64 0, .slice none 0 0] 29 (0, 0))) := (HO.out.below.block _ (lt_of_heap HY1.out)).trans HY1.out
            have HE : Hid (WZ.heap[w.heap.size + 1 + 1]? = some (.cells #[.int .i64 0, .int .i64 0] 39 (0, 0))) := (HO.out.below.block _ (lt_of_heap HE1.out)).trans HE1.out
            have hw1l := lt_of_heap HE1.out
            have hyg := HO.out.yge
            have hg2y : g2 ≠ yb := HO.out.ne g2 rfl
            have hg2w : w1.heap.size ≤ g2 := row_ge HO.out.row g2 rfl
            have HOWN : Hid (WZ.ownsRow w1.heap.size 39 2 (.slice (some ⟨g2, 0, none⟩) n cap2) n (ecells l)) := by have h := HO.out.row; unfold RowR at h; rw [hln] at h; exact h
            obtain ⟨zz0, zz1, zf0, zf1⟩ := agg2 HO.out.y
            obtain ⟨r0, r1⟩ := HO.out.row.ext k hkl
            have rf : WZ.frozen? ⟨g2, k * 2, none⟩ = false := World.ownsRow.frozenAt (n := n) HOWN.out _
            clear x0 x1 x2 x3 e0 e1
            go_wp2_with fail
            have hgne : ∀ j o, WZ.heap[j]? = some o → j ≠ g2 → (WZ.setCell ⟨g2, k * 2, none⟩ (.int .i64 pos)).drew.heap[j]? = some o := fun j o hj hne => (heap_setCell_other _ ⟨g2, k * 2, none⟩ _ _ hne).trans hj
            have HZ5 := hgne _ _ HO.out.y (fun e => hg2y e.symm)
            have HX5 := hgne _ _ HX.out (by omega)
            have HY5 := hgne _ _ HY.out (by omega)
            have HE5 := hgne _ _ HE.out (by omega)
            have HB5 : Hid (Below w.heap.size w (WZ.setCell ⟨g2, k * 2, none⟩ (.int .i64 pos)).drew) := (HBZ.out.setCell (p := ⟨g2, k * 2, none⟩) (by show w.heap.size ≤ g2; omega) _).drew
            have HG5 : Hid (RowR (WZ.setCell ⟨g2, k * 2, none⟩ (.int .i64 pos)).drew B (.slice (some ⟨g, 0, none⟩) n cap) l) := row_below HR.out HB5.out (Nat.le_refl _)
            have HR5 : Hid (RowR (WZ.setCell ⟨g2, k * 2, none⟩ (.int .i64 pos)).drew w1.heap.size (.slice (some ⟨g2, 0, none⟩) n cap2) (movL l k pos)) := by
              have h5 := World.ownsRow.drew (World.ownsRow.stored HOWN.out (k * 2) (.int .i64 pos)).1
              show World.ownsRow _ _ _ _ _ _ _
              rw [movL_length, hln, ← HMC.out]
              exact h5
            obtain ⟨z0, z1, _, _⟩ := agg2 HZ5
            obtain ⟨_, a1, _, _⟩ := agg2 HX5
            obtain ⟨b0, b1⟩ := HKL.out _ HG5.out
            have HZ5' : Hid (_ = _) := HZ5
            have HX5' : Hid (_ = _) := HX5
            have HY5' : Hid (_ = _) := HY5
            have HE5' : Hid (_ = _) := HE5
            clear hgne HZ5 HX5 HY5 HE5 HX HY HE HBZ HOWN HO zz0 zz1 zf0 zf1 r0 r1 rf
            refine wp_region_held_drew (S := fun W => W.cell? ⟨yb, 0, none⟩ = some (.int .i64 (ver + 1)) ∧ W.cell? ⟨yb, 1, none⟩ = some (.slice (some ⟨g2, 0, none⟩) n cap2) ∧ W.cell? ⟨w.heap.size, 1, none⟩ = some (.slice (some ⟨g, 0, none⟩) n cap) ∧ W.cell? ⟨g, k * 2, none⟩ = some (.int .i64 yp) ∧ W.cell? ⟨g, k * 2 + 1, none⟩ = some (.int .i64 yl)) (by kernel_rfl) (by exact ⟨z0, z1, a1, b0, b1⟩) (fun hHeld => ?_)
            change wpAnyH _ _ _ _ _ 9 (Array.replicate 9 false) _ _
            refine wpAnyH_take (i := 0) (oi := _) (v := _) (by simp only [List.getElem?_toArray, List.getElem?_cons_zero]; rfl) (by kernel_rfl) (by kernel_rfl) (by kernel_rfl) (by exact fun _ _ _ h => h) (Or.inl ⟨by rfl, by intro w' hSw; (try dsimp only at hSw); first | (go_simp; done) | (go_simp; with_reducible rfl)⟩) hHeld ?_
            simp only [Act.put, List.setIfInBounds_toArray, List.set_cons_zero, List.set_cons_succ]
            refine wpAnyH_take (i := 1) (oi := _) (v := _) (by simp only [List.getElem?_toArray, List.getElem?_cons_succ, List.getElem?_cons_zero]; rfl) (by kernel_rfl) (by kernel_rfl) (by kernel_rfl) (by exact fun _ _ _ h => h) (Or.inl ⟨by rfl, by intro w' hSw; (try dsimp only at hSw); first | (go_simp; done) | (go_simp; with_reducible rfl)⟩) hHeld ?_
            simp only [Act.put, List.setIfInBounds_toArray, List.set_cons_zero, List.set_cons_succ]
            refine wpAnyH_take (i := 2) (oi := _) (v := _) (by simp only [List.getElem?_toArray, List.getElem?_cons_succ, List.getElem?_cons_zero]; rfl) (by kernel_rfl) (by kernel_rfl) (by kernel_rfl) (by exact fun _ _ _ h => h) (Or.inl ⟨by rfl, by intro w' hSw; (try dsimp only at hSw); first | (go_simp; done) | (go_simp; with_reducible rfl)⟩) hHeld ?_
            simp only [Act.put, List.setIfInBounds_toArray, List.set_cons_zero, List.set_cons_succ]
            refine wpAnyH_take (i := 3) (oi := _) (v := _) (by simp only [List.getElem?_toArray, List.getElem?_cons_succ, List.getElem?_cons_zero]; rfl) (by kernel_rfl) (by kernel_rfl) (by kernel_rfl) (by exact fun _ _ _ h => h) (Or.inl ⟨by rfl, by intro w' hSw; (try dsimp only at hSw); first | (go_simp; done) | (go_simp; with_reducible rfl)⟩) hHeld ?_
            simp only [Act.put, List.setIfInBounds_toArray, List.set_cons_zero, List.set_cons_succ]
            refine wpAnyH_take (i := 4) (oi := _) (v := _) (by simp only [List.getElem?_toArray, List.getElem?_cons_succ, List.getElem?_cons_zero]; rfl) (by kernel_rfl) (by kernel_rfl) (by kernel_rfl) (by exact fun _ _ _ h => h) (Or.inl ⟨by rfl, by intro w' hSw; (try dsimp only at hSw); first | (go_simp; done) | (go_simp; with_reducible rfl)⟩) hHeld ?_
            simp only [Act.put, List.setIfInBounds_toArray, List.set_cons_zero, List.set_cons_succ]
            refine wpAnyH_take (i := 5) (oi := _) (v := _) (by simp only [List.getElem?_toArray, List.getElem?_cons_succ, List.getElem?_cons_zero]; rfl) (by kernel_rfl) (by kernel_rfl) (by kernel_rfl) (by exact fun _ _ _ h => h) (Or.inl ⟨by rfl, by intro w' hSw; (try dsimp only at hSw); first | (go_simp; done) | (go_simp; with_reducible rfl)⟩) hHeld ?_
            simp only [Act.put, List.setIfInBounds_toArray, List.set_cons_zero, List.set_cons_succ]
            refine wpAnyH_ready (rs := [6]) (by kernel_rfl) (by simp) ?_
            refine AllReadyH.cons rfl (fun K hK => ?_) AllReadyH.nil
            generalize (WZ.setCell ⟨g2, k * 2, none⟩ (.int .i64 pos)).drew = w5 at *
            obtain ⟨y0, y1, f0, f1⟩ := agg2 HY5'.out
            go_simp
            obtain ⟨w6, hw6⟩ : ∃ w6, w6 = (w5.setCell ⟨w.heap.size + 1, 0, none⟩ (.int .i64 (ver + 1))).setCell ⟨w.heap.size + 1, 1, none⟩ (.slice (some ⟨g2, 0, none⟩) n cap2) := ⟨_, rfl⟩
            rw [← hw6]
            have HZ6 : w6.heap[yb]? = some (.cells #[.int .i64 (ver + 1), (.slice (some ⟨g2, 0, none⟩) n cap2)] 29 (0, 0)) := by rw [hw6]; exact (set2_other (by omega) _ _).trans HZ5'.out
            have HX6 : w6.heap[w.heap.size]? = some (.cells #[.int .i64 ver, .slice (some ⟨g, 0, none⟩) n cap] 29 (0, 0)) := by rw [hw6]; exact (set2_other (by omega) _ _).trans HX5'.out
            have HY6 : Hid (w6.heap[w.heap.size + 1]? = some (.cells #[.int .i64 (ver + 1), (.slice (some ⟨g2, 0, none⟩) n cap2)] 29 (0, 0))) := by rw [hw6]; exact set2_heap HY5'.out _ _
            have HE6 : Hid (w6.heap[w.heap.size + 1 + 1]? = some (.cells #[.int .i64 0, .int .i64 0] 39 (0, 0))) := by rw [hw6]; exact (set2_other (by omega) _ _).trans HE5'.out
            have HR6 : Hid (RowR w6 w1.heap.size (.slice (some ⟨g2, 0, none⟩) n cap2) (movL l k pos)) := by rw [hw6]; exact row_keep HR5.out (fun g' e => set2_other (by cases e; show g2 ≠ _; omega) _ _)
            have HB6 : Hid (Below w.heap.size w w6) := by rw [hw6]; exact set2_below HB5.out _ (by omega) _ _
            obtain ⟨q0, q1, _, _⟩ := agg2 HZ6
            obtain ⟨_, q2, _, _⟩ := agg2 HX6
            obtain ⟨q3, q4⟩ := HKL.out w6 (row_below HR.out HB6.out (Nat.le_refl _))
            have HZ6' : Hid (_ = _) := HZ6
            have HX6' : Hid (_ = _) := HX6
            refine hK.out _ _ ⟨q0, q1, q2, q3, q4⟩ (fun hHeld => ?_)
            clear hK K y0 y1 f0 f1 hw6 HZ6 HX6 q0 q1 q2 q3 q4
            refine wpAnyH_ready (rs := [7]) (by kernel_rfl) (by simp) ?_
            refine AllReadyH.cons rfl (fun K hK => ?_) AllReadyH.nil
            obtain ⟨y0, y1, f0, f1⟩ := agg2 HE6.out
            go_simp
            obtain ⟨w7, hw7⟩ : ∃ w7, w7 = (w6.setCell ⟨w.heap.size + 1 + 1, 0, none⟩ (.int .i64 yp)).setCell ⟨w.heap.size + 1 + 1, 1, none⟩ (.int .i64 yl) := ⟨_, rfl⟩
            rw [← hw7]
            have HZ7 : w7.heap[yb]? = some (.cells #[.int .i64 (ver + 1), (.slice (some ⟨g2, 0, none⟩) n cap2)] 29 (0, 0)) := by rw [hw7]; exact (set2_other (by omega) _ _).trans HZ6'.out
            have HX7 : w7.heap[w.heap.size]? = some (.cells #[.int .i64 ver, .slice (some ⟨g, 0, none⟩) n cap] 29 (0, 0)) := by rw [hw7]; exact (set2_other (by omega) _ _).trans HX6'.out
            have HY7 : Hid (w7.heap[w.heap.size + 1]? = some (.cells #[.int .i64 (ver + 1), (.slice (some ⟨g2, 0, none⟩) n cap2)] 29 (0, 0))) := by rw [hw7]; exact (set2_other (by omega) _ _).trans HY6.out
            have HE7 : Hid (w7.heap[w.heap.size + 1 + 1]? = some (.cells #[.int .i64 yp, .int .i64 yl] 39 (0, 0))) := by rw [hw7]; exact set2_heap HE6.out _ _
            have HR7 : Hid (RowR w7 w1.heap.size (.slice (some ⟨g2, 0, none⟩) n cap2) (movL l k pos)) := by rw [hw7]; exact row_keep HR6.out (fun g' e => set2_other (by cases e; show g2 ≠ _; omega) _ _)
            have HB7 : Hid (Below w.heap.size w w7) := by rw [hw7]; exact set2_below HB6.out _ (by omega) _ _
            obtain ⟨q0, q1, _, _⟩ := agg2 HZ7
            obtain ⟨_, q2, _, _⟩ := agg2 HX7
            obtain ⟨q3, q4⟩ := HKL.out w7 (row_below HR.out HB7.out (Nat.le_refl _))
            refine hK.out _ _ ⟨q0, q1, q2, q3, q4⟩ (fun hHeld => ?_)
            clear hK K y0 y1 f0 f1 hw7 HZ7 HX7 q0 q1 q2 q3 q4
            refine wpAnyH_take (i := 8) (oi := _) (v := _) (by simp only [List.getElem?_toArray, List.getElem?_cons_succ, List.getElem?_cons_zero]; rfl) (by kernel_rfl) (by kernel_rfl) (by kernel_rfl) (by exact fun _ _ _ h => h) (Or.inl ⟨by rfl, by intro w' hSw; (try dsimp only at hSw); first | (go_simp; done) | (go_simp; with_reducible rfl)⟩) hHeld ?_
            simp only [Act.put, List.setIfInBounds_toArray, List.set_cons_zero, List.set_cons_succ]
            refine wpAnyH_done (by kernel_rfl) ?_ _
            go_wp2
            refine bodyPost_ret (res_moveR _ (w.heap.size + 1) _ (ver + 1) (some ⟨g2, 0, none⟩) n cap2 yp yl _ rfl rfl rfl HY7.out HE7.out) rfl ?_
            exact ⟨⟨ver + 1, (.slice (some ⟨g2, 0, none⟩) n cap2), ⟨yp, yl⟩, by rw [HM.out]; rfl, fun _ => ⟨rfl, row_base HR7.out (by omega), HKE.out⟩, fun h => absurd HM.out h⟩, HB7.out⟩
          · skip
            go_simp
            go_wp2_with fail
            obtain ⟨WC, hWC⟩ : ∃ W, W = (WA).alloc (Obj.cells #[.int .i64 0, .slice none 0 0] 29) := ⟨_, rfl⟩
            have hbC : Below w1.heap.size w1 WC := by rw [hWC]; exact hbA.alloc hbA.size _
            rw [← hWC]
            refine hK.out _ _ ⟨(hbC.cell (p := ⟨w.heap.size, 0, none⟩) (lt_of_cell x0)).trans x0, (hbC.cell (p := ⟨w.heap.size, 1, none⟩) (lt_of_cell x1)).trans x1⟩ (fun hHeld => ?_)
            clear hK K
            have hyz0 : WC.heap[w1.heap.size + 1]? = some (.cells #[.int .i64 0, .slice none 0 0] 29 (0, 0)) := by rw [hWC, ← hsA]; exact heap_alloc_new _ _
            have hlC : WC.heap[w1.heap.size]? = some (.cells #[] 39 (0, 0)) := by rw [hWC]; exact (Below.heap_alloc _ _ _ (lt_of_heap hlA)).trans hlA
            clear hWC
            refine wpAnyH_ready (rs := [6]) (by kernel_rfl) (by simp) ?_
            refine AllReadyH.cons (o := _) (by simp only [List.getElem?_toArray, List.getElem?_cons_succ, List.getElem?_cons_zero]; rfl) (fun K hK => ?_) AllReadyH.nil
            obtain ⟨v2, WD, hrun, hrow, hg, hnr⟩ := copyR_run (W := WC) (B := B) (gb := w1.heap.size) (B0 := w1.heap.size) (.slice (some ⟨g, 0, none⟩) n cap) l (row_below (row_below HR.out HB1.out (Nat.le_refl _)) hbC (Nat.le_refl _)) (by omega) hlC (Nat.le_refl _) 27
            refine wpH_app (by rfl) rfl rfl rfl hrun ?_
            obtain ⟨a2, cap2, hv2, _⟩ := row_slice hrow
            rw [hln] at hv2
            subst hv2
            have hbD : Below w1.heap.size w1 WD := hbC.grown hg hbC.size (fun k e => by cases e; first | omega | exact Nat.le_refl _)
            refine hK.out _ _ ⟨(hbD.cell (p := ⟨w.heap.size, 0, none⟩) (lt_of_cell x0)).trans x0, (hbD.cell (p := ⟨w.heap.size, 1, none⟩) (lt_of_cell x1)).trans x1⟩ (fun hHeld => ?_)
            clear hK K
            simp only [Act.put, List.setIfInBounds_toArray, List.set_cons_zero, List.set_cons_succ]
            have hyz : WD.heap[w1.heap.size + 1]? = some (.cells #[.int .i64 0, .slice none 0 0] 29 (0, 0)) := (hg.block _ (lt_of_heap hyz0) (fun e => by have := Option.some.inj e; omega)).trans hyz0
            have hne : ∀ i, (Value.slice a2 n cap2).ownBlock = some i → i ≠ w1.heap.size + 1 := by
              intro i e
              have hlt := lt_of_heap hyz0
              rcases hnr with h | ⟨j, h, hj⟩
              · rw [h] at e; have e2 := Option.some.inj e; dsimp only at e2; omega
              · rw [h] at e; have e2 := Option.some.inj e; omega
            refine wpAnyH_take (i := 7) (oi := _) (v := _) (by simp only [List.getElem?_toArray, List.getElem?_cons_succ, List.getElem?_cons_zero]; rfl) (by kernel_rfl) (by kernel_rfl) (by kernel_rfl) (by exact fun _ _ _ h => h) (Or.inl ⟨by rfl, by intro w' hSw; (try dsimp only at hSw); first | (go_simp; done) | (go_simp; with_reducible rfl)⟩) hHeld ?_
            simp only [Act.put, List.setIfInBounds_toArray, List.set_cons_zero, List.set_cons_succ]
            refine wpAnyH_ready (rs := [9]) (by kernel_rfl) (by simp) ?_
            refine AllReadyH.cons rfl (fun K hK => ?_) AllReadyH.nil
            obtain ⟨y0, y1, f0, f1⟩ := agg2 hyz
            simp only [HWR.out]
            go_simp
            go_wp2_with fail
            refine hK.out _ _ (by have hq : Below w1.heap.size w1 (((WD).setCell ⟨w1.heap.size + 1, 0, none⟩ (.int .i64 (ver + 1))).setCell ⟨w1.heap.size + 1, 1, none⟩ (.slice a2 n cap2)) := set2_below hbD _ (by first | omega | exact Nat.le_refl _) _ _; exact ⟨(hq.cell (p := ⟨w.heap.size, 0, none⟩) (lt_of_cell x0)).trans x0, (hq.cell (p := ⟨w.heap.size, 1, none⟩) (lt_of_cell x1)).trans x1⟩) (fun hHeld => ?_)
            clear hK K y0 y1 f0 f1
            refine wpAnyH_done (by kernel_rfl) ?_ _
            have hdone : OutR w1 ((WD.setCell ⟨w1.heap.size + 1, 0, none⟩ (.int .i64 (ver + 1))).setCell ⟨w1.heap.size + 1, 1, none⟩ (.slice a2 n cap2)) (w1.heap.size + 1) (ver + 1) (.slice a2 n cap2) l := ⟨set2_heap hyz _ _, row_keep hrow (fun g e => set2_other (hne g e) _ _), set2_below hbD _ (by omega) _ _, by omega, hne⟩
            obtain ⟨WZ, hWZ⟩ : ∃ W, W = (WD.setCell ⟨w1.heap.size + 1, 0, none⟩ (.int .i64 (ver + 1))).setCell ⟨w1.heap.size + 1, 1, none⟩ (.slice a2 n cap2) := ⟨_, rfl⟩
            obtain ⟨yb, hyb⟩ : ∃ k, k = w1.heap.size + 1 := ⟨_, rfl⟩
            rw [← hWZ, ← hyb] at hdone
            rw [← hWZ]
            try rw [← hyb]
            have HO : Hid (OutR w1 WZ yb (ver + 1) (.slice a2 n cap2) l) := hdone
            clear hdone hWZ hyb
            try clear hg hnr
            try clear hyz hyz0 hne
            obtain ⟨g2, cap', hv2⟩ := row_some HO.out.row (by omega)
            rw [hln] at hv2
            cases hv2
            have HBZ : Hid (Below w.heap.size w WZ) := HB1.out.trans (HO.out.below.mono HB1.out.size)
            have HX : Hid (WZ.heap[w.heap.size]? = some (.cells #[.int .i64 ver, .slice (some ⟨g, 0, none⟩) n cap] 29 (0, 0))) := (HO.out.below.block _ (lt_of_heap HX1.out)).trans HX1.out
            have HY : Hid (WZ.heap[w.heap.size + 1]? = some (.cells #[.int .i64 0, .slice none 0 0] 29 (0, 0))) := (HO.out.below.block _ (lt_of_heap HY1.out)).trans HY1.out
            have HE : Hid (WZ.heap[w.heap.size + 1 + 1]? = some (.cells #[.int .i64 0, .int .i64 0] 39 (0, 0))) := (HO.out.below.block _ (lt_of_heap HE1.out)).trans HE1.out
            have hw1l := lt_of_heap HE1.out
            have hyg := HO.out.yge
            have hg2y : g2 ≠ yb := HO.out.ne g2 rfl
            have hg2w : w1.heap.size ≤ g2 := row_ge HO.out.row g2 rfl
            have HOWN : Hid (WZ.ownsRow w1.heap.size 39 2 (.slice (some ⟨g2, 0, none⟩) n cap2) n (ecells l)) := by have h := HO.out.row; unfold RowR at h; rw [hln] at h; exact h
            obtain ⟨zz0, zz1, zf0, zf1⟩ := agg2 HO.out.y
            obtain ⟨r0, r1⟩ := HO.out.row.ext k hkl
            have rf : WZ.frozen? ⟨g2, k * 2, none⟩ = false := World.ownsRow.frozenAt (n := n) HOWN.out _
            clear x0 x1 x2 x3 e0 e1
            go_wp2_with fail
            have hgne : ∀ j o, WZ.heap[j]? = some o → j ≠ g2 → (WZ.setCell ⟨g2, k * 2, none⟩ (.int .i64 pos)).drew.heap[j]? = some o := fun j o hj hne => (heap_setCell_other _ ⟨g2, k * 2, none⟩ _ _ hne).trans hj
            have HZ5 := hgne _ _ HO.out.y (fun e => hg2y e.symm)
            have HX5 := hgne _ _ HX.out (by omega)
            have HY5 := hgne _ _ HY.out (by omega)
            have HE5 := hgne _ _ HE.out (by omega)
            have HB5 : Hid (Below w.heap.size w (WZ.setCell ⟨g2, k * 2, none⟩ (.int .i64 pos)).drew) := (HBZ.out.setCell (p := ⟨g2, k * 2, none⟩) (by show w.heap.size ≤ g2; omega) _).drew
            have HG5 : Hid (RowR (WZ.setCell ⟨g2, k * 2, none⟩ (.int .i64 pos)).drew B (.slice (some ⟨g, 0, none⟩) n cap) l) := row_below HR.out HB5.out (Nat.le_refl _)
            have HR5 : Hid (RowR (WZ.setCell ⟨g2, k * 2, none⟩ (.int .i64 pos)).drew w1.heap.size (.slice (some ⟨g2, 0, none⟩) n cap2) (movL l k pos)) := by
              have h5 := World.ownsRow.drew (World.ownsRow.stored HOWN.out (k * 2) (.int .i64 pos)).1
              show World.ownsRow _ _ _ _ _ _ _
              rw [movL_length, hln, ← HMC.out]
              exact h5
            obtain ⟨z0, z1, _, _⟩ := agg2 HZ5
            obtain ⟨_, a1, _, _⟩ := agg2 HX5
            obtain ⟨b0, b1⟩ := HKL.out _ HG5.out
            have HZ5' : Hid (_ = _) := HZ5
            have HX5' : Hid (_ = _) := HX5
            have HY5' : Hid (_ = _) := HY5
            have HE5' : Hid (_ = _) := HE5
            clear hgne HZ5 HX5 HY5 HE5 HX HY HE HBZ HOWN HO zz0 zz1 zf0 zf1 r0 r1 rf
            refine wp_region_held_drew (S := fun W => W.cell? ⟨yb, 0, none⟩ = some (.int .i64 (ver + 1)) ∧ W.cell? ⟨yb, 1, none⟩ = some (.slice (some ⟨g2, 0, none⟩) n cap2) ∧ W.cell? ⟨w.heap.size, 1, none⟩ = some (.slice (some ⟨g, 0, none⟩) n cap) ∧ W.cell? ⟨g, k * 2, none⟩ = some (.int .i64 yp) ∧ W.cell? ⟨g, k * 2 + 1, none⟩ = some (.int .i64 yl)) (by kernel_rfl) (by exact ⟨z0, z1, a1, b0, b1⟩) (fun hHeld => ?_)
            change wpAnyH _ _ _ _ _ 9 (Array.replicate 9 false) _ _
            refine wpAnyH_take (i := 0) (oi := _) (v := _) (by simp only [List.getElem?_toArray, List.getElem?_cons_zero]; rfl) (by kernel_rfl) (by kernel_rfl) (by kernel_rfl) (by exact fun _ _ _ h => h) (Or.inl ⟨by rfl, by intro w' hSw; (try dsimp only at hSw); first | (go_simp; done) | (go_simp; with_reducible rfl)⟩) hHeld ?_
            simp only [Act.put, List.setIfInBounds_toArray, List.set_cons_zero, List.set_cons_succ]
            refine wpAnyH_take (i := 1) (oi := _) (v := _) (by simp only [List.getElem?_toArray, List.getElem?_cons_succ, List.getElem?_cons_zero]; rfl) (by kernel_rfl) (by kernel_rfl) (by kernel_rfl) (by exact fun _ _ _ h => h) (Or.inl ⟨by rfl, by intro w' hSw; (try dsimp only at hSw); first | (go_simp; done) | (go_simp; with_reducible rfl)⟩) hHeld ?_
            simp only [Act.put, List.setIfInBounds_toArray, List.set_cons_zero, List.set_cons_succ]
            refine wpAnyH_take (i := 2) (oi := _) (v := _) (by simp only [List.getElem?_toArray, List.getElem?_cons_succ, List.getElem?_cons_zero]; rfl) (by kernel_rfl) (by kernel_rfl) (by kernel_rfl) (by exact fun _ _ _ h => h) (Or.inl ⟨by rfl, by intro w' hSw; (try dsimp only at hSw); first | (go_simp; done) | (go_simp; with_reducible rfl)⟩) hHeld ?_
            simp only [Act.put, List.setIfInBounds_toArray, List.set_cons_zero, List.set_cons_succ]
            refine wpAnyH_take (i := 3) (oi := _) (v := _) (by simp only [List.getElem?_toArray, List.getElem?_cons_succ, List.getElem?_cons_zero]; rfl) (by kernel_rfl) (by kernel_rfl) (by kernel_rfl) (by exact fun _ _ _ h => h) (Or.inl ⟨by rfl, by intro w' hSw; (try dsimp only at hSw); first | (go_simp; done) | (go_simp; with_reducible rfl)⟩) hHeld ?_
            simp only [Act.put, List.setIfInBounds_toArray, List.set_cons_zero, List.set_cons_succ]
            refine wpAnyH_take (i := 4) (oi := _) (v := _) (by simp only [List.getElem?_toArray, List.getElem?_cons_succ, List.getElem?_cons_zero]; rfl) (by kernel_rfl) (by kernel_rfl) (by kernel_rfl) (by exact fun _ _ _ h => h) (Or.inl ⟨by rfl, by intro w' hSw; (try dsimp only at hSw); first | (go_simp; done) | (go_simp; with_reducible rfl)⟩) hHeld ?_
            simp only [Act.put, List.setIfInBounds_toArray, List.set_cons_zero, List.set_cons_succ]
            refine wpAnyH_take (i := 5) (oi := _) (v := _) (by simp only [List.getElem?_toArray, List.getElem?_cons_succ, List.getElem?_cons_zero]; rfl) (by kernel_rfl) (by kernel_rfl) (by kernel_rfl) (by exact fun _ _ _ h => h) (Or.inl ⟨by rfl, by intro w' hSw; (try dsimp only at hSw); first | (go_simp; done) | (go_simp; with_reducible rfl)⟩) hHeld ?_
            simp only [Act.put, List.setIfInBounds_toArray, List.set_cons_zero, List.set_cons_succ]
            refine wpAnyH_ready (rs := [6]) (by kernel_rfl) (by simp) ?_
            refine AllReadyH.cons rfl (fun K hK => ?_) AllReadyH.nil
            generalize (WZ.setCell ⟨g2, k * 2, none⟩ (.int .i64 pos)).drew = w5 at *
            obtain ⟨y0, y1, f0, f1⟩ := agg2 HY5'.out
            go_simp
            obtain ⟨w6, hw6⟩ : ∃ w6, w6 = (w5.setCell ⟨w.heap.size + 1, 0, none⟩ (.int .i64 (ver + 1))).setCell ⟨w.heap.size + 1, 1, none⟩ (.slice (some ⟨g2, 0, none⟩) n cap2) := ⟨_, rfl⟩
            rw [← hw6]
            have HZ6 : w6.heap[yb]? = some (.cells #[.int .i64 (ver + 1), (.slice (some ⟨g2, 0, none⟩) n cap2)] 29 (0, 0)) := by rw [hw6]; exact (set2_other (by omega) _ _).trans HZ5'.out
            have HX6 : w6.heap[w.heap.size]? = some (.cells #[.int .i64 ver, .slice (some ⟨g, 0, none⟩) n cap] 29 (0, 0)) := by rw [hw6]; exact (set2_other (by omega) _ _).trans HX5'.out
            have HY6 : Hid (w6.heap[w.heap.size + 1]? = some (.cells #[.int .i64 (ver + 1), (.slice (some ⟨g2, 0, none⟩) n cap2)] 29 (0, 0))) := by rw [hw6]; exact set2_heap HY5'.out _ _
            have HE6 : Hid (w6.heap[w.heap.size + 1 + 1]? = some (.cells #[.int .i64 0, .int .i64 0] 39 (0, 0))) := by rw [hw6]; exact (set2_other (by omega) _ _).trans HE5'.out
            have HR6 : Hid (RowR w6 w1.heap.size (.slice (some ⟨g2, 0, none⟩) n cap2) (movL l k pos)) := by rw [hw6]; exact row_keep HR5.out (fun g' e => set2_other (by cases e; show g2 ≠ _; omega) _ _)
            have HB6 : Hid (Below w.heap.size w w6) := by rw [hw6]; exact set2_below HB5.out _ (by omega) _ _
            obtain ⟨q0, q1, _, _⟩ := agg2 HZ6
            obtain ⟨_, q2, _, _⟩ := agg2 HX6
            obtain ⟨q3, q4⟩ := HKL.out w6 (row_below HR.out HB6.out (Nat.le_refl _))
            have HZ6' : Hid (_ = _) := HZ6
            have HX6' : Hid (_ = _) := HX6
            refine hK.out _ _ ⟨q0, q1, q2, q3, q4⟩ (fun hHeld => ?_)
            clear hK K y0 y1 f0 f1 hw6 HZ6 HX6 q0 q1 q2 q3 q4
            refine wpAnyH_ready (rs := [7]) (by kernel_rfl) (by simp) ?_
            refine AllReadyH.cons rfl (fun K hK => ?_) AllReadyH.nil
            obtain ⟨y0, y1, f0, f1⟩ := agg2 HE6.out
            go_simp
            obtain ⟨w7, hw7⟩ : ∃ w7, w7 = (w6.setCell ⟨w.heap.size + 1 + 1, 0, none⟩ (.int .i64 yp)).setCell ⟨w.heap.size + 1 + 1, 1, none⟩ (.int .i64 yl) := ⟨_, rfl⟩
            rw [← hw7]
            have HZ7 : w7.heap[yb]? = some (.cells #[.int .i64 (ver + 1), (.slice (some ⟨g2, 0, none⟩) n cap2)] 29 (0, 0)) := by rw [hw7]; exact (set2_other (by omega) _ _).trans HZ6'.out
            have HX7 : w7.heap[w.heap.size]? = some (.cells #[.int .i64 ver, .slice (some ⟨g, 0, none⟩) n cap] 29 (0, 0)) := by rw [hw7]; exact (set2_other (by omega) _ _).trans HX6'.out
            have HY7 : Hid (w7.heap[w.heap.size + 1]? = some (.cells #[.int .i64 (ver + 1), (.slice (some ⟨g2, 0, none⟩) n cap2)] 29 (0, 0))) := by rw [hw7]; exact (set2_other (by omega) _ _).trans HY6.out
            have HE7 : Hid (w7.heap[w.heap.size + 1 + 1]? = some (.cells #[.int .i64 yp, .int .i64 yl] 39 (0, 0))) := by rw [hw7]; exact set2_heap HE6.out _ _
            have HR7 : Hid (RowR w7 w1.heap.size (.slice (some ⟨g2, 0, none⟩) n cap2) (movL l k pos)) := by rw [hw7]; exact row_keep HR6.out (fun g' e => set2_other (by cases e; show g2 ≠ _; omega) _ _)
            have HB7 : Hid (Below w.heap.size w w7) := by rw [hw7]; exact set2_below HB6.out _ (by omega) _ _
            obtain ⟨q0, q1, _, _⟩ := agg2 HZ7
            obtain ⟨_, q2, _, _⟩ := agg2 HX7
            obtain ⟨q3, q4⟩ := HKL.out w7 (row_below HR.out HB7.out (Nat.le_refl _))
            refine hK.out _ _ ⟨q0, q1, q2, q3, q4⟩ (fun hHeld => ?_)
            clear hK K y0 y1 f0 f1 hw7 HZ7 HX7 q0 q1 q2 q3 q4
            refine wpAnyH_take (i := 8) (oi := _) (v := _) (by simp only [List.getElem?_toArray, List.getElem?_cons_succ, List.getElem?_cons_zero]; rfl) (by kernel_rfl) (by kernel_rfl) (by kernel_rfl) (by exact fun _ _ _ h => h) (Or.inl ⟨by rfl, by intro w' hSw; (try dsimp only at hSw); first | (go_simp; done) | (go_simp; with_reducible rfl)⟩) hHeld ?_
            simp only [Act.put, List.setIfInBounds_toArray, List.set_cons_zero, List.set_cons_succ]
            refine wpAnyH_done (by kernel_rfl) ?_ _
            go_wp2
            refine bodyPost_ret (res_moveR _ (w.heap.size + 1) _ (ver + 1) (some ⟨g2, 0, none⟩) n cap2 yp yl _ rfl rfl rfl HY7.out HE7.out) rfl ?_
            exact ⟨⟨ver + 1, (.slice (some ⟨g2, 0, none⟩) n cap2), ⟨yp, yl⟩, by rw [HM.out]; rfl, fun _ => ⟨rfl, row_base HR7.out (by omega), HKE.out⟩, fun h => absurd HM.out h⟩, HB7.out⟩
        · skip
          go_simp
          go_wp2_with fail
          obtain ⟨WE, hWE⟩ : ∃ W, W = (w1.alloc (Obj.cells #[.int .i64 0, .slice none 0 0] 29)).drew := ⟨_, rfl⟩
          have hbE : Below w1.heap.size w1 WE := by rw [hWE]; exact ((Below.refl _ _).alloc (Nat.le_refl _) _).drew
          rw [← hWE]
          refine hK.out _ _ ⟨(hbE.cell (p := ⟨w.heap.size, 0, none⟩) (lt_of_cell x0)).trans x0, (hbE.cell (p := ⟨w.heap.size, 1, none⟩) (lt_of_cell x1)).trans x1⟩ (fun hHeld => ?_)
          clear hK K
          have hyz1 : WE.heap[w1.heap.size]? = some (.cells #[.int .i64 0, .slice none 0 0] 29 (0, 0)) := by rw [hWE]; exact heap_alloc_new _ _
          have hsE : WE.heap.size = w1.heap.size + 1 := by rw [hWE]; simp
          clear hWE
          refine wpAnyH_ready (rs := [3]) (by kernel_rfl) (by simp) ?_
          refine AllReadyH.cons rfl (fun K hK => ?_) AllReadyH.nil
          go_simp
          go_wp2_with fail
          obtain ⟨WF, hWF⟩ : ∃ W, W = (WE).alloc (Obj.cells #[] 39) := ⟨_, rfl⟩
          have hbF : Below w1.heap.size w1 WF := by rw [hWF]; exact hbE.alloc hbE.size _
          rw [← hWF]
          refine hK.out _ _ ⟨(hbF.cell (p := ⟨w.heap.size, 0, none⟩) (lt_of_cell x0)).trans x0, (hbF.cell (p := ⟨w.heap.size, 1, none⟩) (lt_of_cell x1)).trans x1⟩ (fun hHeld => ?_)
          clear hK K
          have hyz0 : WF.heap[w1.heap.size]? = some (.cells #[.int .i64 0, .slice none 0 0] 29 (0, 0)) := by rw [hWF]; exact (Below.heap_alloc _ _ _ (lt_of_heap hyz1)).trans hyz1
          have hlF : WF.heap[w1.heap.size + 1]? = some (.cells #[] 39 (0, 0)) := by rw [hWF, ← hsE]; exact heap_alloc_new _ _
          clear hWF
          refine wpAnyH_ready (rs := [6]) (by kernel_rfl) (by simp) ?_
          refine AllReadyH.cons (o := _) (by simp only [List.getElem?_toArray, List.getElem?_cons_succ, List.getElem?_cons_zero]; rfl) (fun K hK => ?_) AllReadyH.nil
          obtain ⟨v2, WG, hrun, hrow, hg, hnr⟩ := copyR_run (W := WF) (B := B) (gb := (w1.heap.size + 1)) (B0 := w1.heap.size) (.slice (some ⟨g, 0, none⟩) n cap) l (row_below (row_below HR.out HB1.out (Nat.le_refl _)) hbF (Nat.le_refl _)) (by omega) hlF (by omega) 27
          refine wpH_app (by rfl) rfl rfl rfl hrun ?_
          obtain ⟨a2, cap2, hv2, _⟩ := row_slice hrow
          rw [hln] at hv2
          subst hv2
          have hbG : Below w1.heap.size w1 WG := hbF.grown hg hbF.size (fun k e => by cases e; first | omega | exact Nat.le_refl _)
          refine hK.out _ _ ⟨(hbG.cell (p := ⟨w.heap.size, 0, none⟩) (lt_of_cell x0)).trans x0, (hbG.cell (p := ⟨w.heap.size, 1, none⟩) (lt_of_cell x1)).trans x1⟩ (fun hHeld => ?_)
          clear hK K
          simp only [Act.put, List.setIfInBounds_toArray, List.set_cons_zero, List.set_cons_succ]
          have hyz : WG.heap[w1.heap.size]? = some (.cells #[.int .i64 0, .slice none 0 0] 29 (0, 0)) := (hg.block _ (lt_of_heap hyz0) (fun e => by have := Option.some.inj e; omega)).trans hyz0
          have hne : ∀ i, (Value.slice a2 n cap2).ownBlock = some i → i ≠ w1.heap.size := by
            intro i e
            have hlt := lt_of_heap hyz0
            rcases hnr with h | ⟨j, h, hj⟩
            · rw [h] at e; have e2 := Option.some.inj e; dsimp only at e2; omega
            · rw [h] at e; have e2 := Option.some.inj e; omega
          refine wpAnyH_take (i := 7) (oi := _) (v := _) (by simp only [List.getElem?_toArray, List.getElem?_cons_succ, List.getElem?_cons_zero]; rfl) (by kernel_rfl) (by kernel_rfl) (by kernel_rfl) (by exact fun _ _ _ h => h) (Or.inl ⟨by rfl, by intro w' hSw; (try dsimp only at hSw); first | (go_simp; done) | (go_simp; with_reducible rfl)⟩) hHeld ?_
          simp only [Act.put, List.setIfInBounds_toArray, List.set_cons_zero, List.set_cons_succ]
          refine wpAnyH_ready (rs := [9]) (by kernel_rfl) (by simp) ?_
          refine AllReadyH.cons rfl (fun K hK => ?_) AllReadyH.nil
          obtain ⟨y0, y1, f0, f1⟩ := agg2 hyz
          simp only [HWR.out]
          go_simp
          go_wp2_with fail
          refine hK.out _ _ (by have hq : Below w1.heap.size w1 (((WG).setCell ⟨w1.heap.size, 0, none⟩ (.int .i64 (ver + 1))).setCell ⟨w1.heap.size, 1, none⟩ (.slice a2 n cap2)) := set2_below hbG _ (by first | omega | exact Nat.le_refl _) _ _; exact ⟨(hq.cell (p := ⟨w.heap.size, 0, none⟩) (lt_of_cell x0)).trans x0, (hq.cell (p := ⟨w.heap.size, 1, none⟩) (lt_of_cell x1)).trans x1⟩) (fun hHeld => ?_)
          clear hK K y0 y1 f0 f1
          refine wpAnyH_done (by kernel_rfl) ?_ _
          have hdone : OutR w1 ((WG.setCell ⟨w1.heap.size, 0, none⟩ (.int .i64 (ver + 1))).setCell ⟨w1.heap.size, 1, none⟩ (.slice a2 n cap2)) (w1.heap.size) (ver + 1) (.slice a2 n cap2) l := ⟨set2_heap hyz _ _, row_keep hrow (fun g e => set2_other (hne g e) _ _), set2_below hbG _ (Nat.le_refl _) _ _, Nat.le_refl _, hne⟩
          obtain ⟨WZ, hWZ⟩ : ∃ W, W = (WG.setCell ⟨w1.heap.size, 0, none⟩ (.int .i64 (ver + 1))).setCell ⟨w1.heap.size, 1, none⟩ (.slice a2 n cap2) := ⟨_, rfl⟩
          obtain ⟨yb, hyb⟩ : ∃ k, k = w1.heap.size := ⟨_, rfl⟩
          rw [← hWZ, ← hyb] at hdone
          rw [← hWZ]
          try rw [← hyb]
          have HO : Hid (OutR w1 WZ yb (ver + 1) (.slice a2 n cap2) l) := hdone
          clear hdone hWZ hyb
          try clear hg hnr
          try clear hyz hyz0 hne
          obtain ⟨g2, cap', hv2⟩ := row_some HO.out.row (by omega)
          rw [hln] at hv2
          cases hv2
          have HBZ : Hid (Below w.heap.size w WZ) := HB1.out.trans (HO.out.below.mono HB1.out.size)
          have HX : Hid (WZ.heap[w.heap.size]? = some (.cells #[.int .i64 ver, .slice (some ⟨g, 0, none⟩) n cap] 29 (0, 0))) := (HO.out.below.block _ (lt_of_heap HX1.out)).trans HX1.out
          have HY : Hid (WZ.heap[w.heap.size + 1]? = some (.cells #[.int .i64 0, .slice none 0 0] 29 (0, 0))) := (HO.out.below.block _ (lt_of_heap HY1.out)).trans HY1.out
          have HE : Hid (WZ.heap[w.heap.size + 1 + 1]? = some (.cells #[.int .i64 0, .int .i64 0] 39 (0, 0))) := (HO.out.below.block _ (lt_of_heap HE1.out)).trans HE1.out
          have hw1l := lt_of_heap HE1.out
          have hyg := HO.out.yge
          have hg2y : g2 ≠ yb := HO.out.ne g2 rfl
          have hg2w : w1.heap.size ≤ g2 := row_ge HO.out.row g2 rfl
          have HOWN : Hid (WZ.ownsRow w1.heap.size 39 2 (.slice (some ⟨g2, 0, none⟩) n cap2) n (ecells l)) := by have h := HO.out.row; unfold RowR at h; rw [hln] at h; exact h
          obtain ⟨zz0, zz1, zf0, zf1⟩ := agg2 HO.out.y
          obtain ⟨r0, r1⟩ := HO.out.row.ext k hkl
          have rf : WZ.frozen? ⟨g2, k * 2, none⟩ = false := World.ownsRow.frozenAt (n := n) HOWN.out _
          clear x0 x1 x2 x3 e0 e1
          go_wp2_with fail
          have hgne : ∀ j o, WZ.heap[j]? = some o → j ≠ g2 → (WZ.setCell ⟨g2, k * 2, none⟩ (.int .i64 pos)).drew.heap[j]? = some o := fun j o hj hne => (heap_setCell_other _ ⟨g2, k * 2, none⟩ _ _ hne).trans hj
          have HZ5 := hgne _ _ HO.out.y (fun e => hg2y e.symm)
          have HX5 := hgne _ _ HX.out (by omega)
          have HY5 := hgne _ _ HY.out (by omega)
          have HE5 := hgne _ _ HE.out (by omega)
          have HB5 : Hid (Below w.heap.size w (WZ.setCell ⟨g2, k * 2, none⟩ (.int .i64 pos)).drew) := (HBZ.out.setCell (p := ⟨g2, k * 2, none⟩) (by show w.heap.size ≤ g2; omega) _).drew
          have HG5 : Hid (RowR (WZ.setCell ⟨g2, k * 2, none⟩ (.int .i64 pos)).drew B (.slice (some ⟨g, 0, none⟩) n cap) l) := row_below HR.out HB5.out (Nat.le_refl _)
          have HR5 : Hid (RowR (WZ.setCell ⟨g2, k * 2, none⟩ (.int .i64 pos)).drew w1.heap.size (.slice (some ⟨g2, 0, none⟩) n cap2) (movL l k pos)) := by
            have h5 := World.ownsRow.drew (World.ownsRow.stored HOWN.out (k * 2) (.int .i64 pos)).1
            show World.ownsRow _ _ _ _ _ _ _
            rw [movL_length, hln, ← HMC.out]
            exact h5
          obtain ⟨z0, z1, _, _⟩ := agg2 HZ5
          obtain ⟨_, a1, _, _⟩ := agg2 HX5
          obtain ⟨b0, b1⟩ := HKL.out _ HG5.out
          have HZ5' : Hid (_ = _) := HZ5
          have HX5' : Hid (_ = _) := HX5
          have HY5' : Hid (_ = _) := HY5
          have HE5' : Hid (_ = _) := HE5
          clear hgne HZ5 HX5 HY5 HE5 HX HY HE HBZ HOWN HO zz0 zz1 zf0 zf1 r0 r1 rf
          refine wp_region_held_drew (S := fun W => W.cell? ⟨yb, 0, none⟩ = some (.int .i64 (ver + 1)) ∧ W.cell? ⟨yb, 1, none⟩ = some (.slice (some ⟨g2, 0, none⟩) n cap2) ∧ W.cell? ⟨w.heap.size, 1, none⟩ = some (.slice (some ⟨g, 0, none⟩) n cap) ∧ W.cell? ⟨g, k * 2, none⟩ = some (.int .i64 yp) ∧ W.cell? ⟨g, k * 2 + 1, none⟩ = some (.int .i64 yl)) (by kernel_rfl) (by exact ⟨z0, z1, a1, b0, b1⟩) (fun hHeld => ?_)
          change wpAnyH _ _ _ _ _ 9 (Array.replicate 9 false) _ _
          refine wpAnyH_take (i := 0) (oi := _) (v := _) (by simp only [List.getElem?_toArray, List.getElem?_cons_zero]; rfl) (by kernel_rfl) (by kernel_rfl) (by kernel_rfl) (by exact fun _ _ _ h => h) (Or.inl ⟨by rfl, by intro w' hSw; (try dsimp only at hSw); first | (go_simp; done) | (go_simp; with_reducible rfl)⟩) hHeld ?_
          simp only [Act.put, List.setIfInBounds_toArray, List.set_cons_zero, List.set_cons_succ]
          refine wpAnyH_take (i := 1) (oi := _) (v := _) (by simp only [List.getElem?_toArray, List.getElem?_cons_succ, List.getElem?_cons_zero]; rfl) (by kernel_rfl) (by kernel_rfl) (by kernel_rfl) (by exact fun _ _ _ h => h) (Or.inl ⟨by rfl, by intro w' hSw; (try dsimp only at hSw); first | (go_simp; done) | (go_simp; with_reducible rfl)⟩) hHeld ?_
          simp only [Act.put, List.setIfInBounds_toArray, List.set_cons_zero, List.set_cons_succ]
          refine wpAnyH_take (i := 2) (oi := _) (v := _) (by simp only [List.getElem?_toArray, List.getElem?_cons_succ, List.getElem?_cons_zero]; rfl) (by kernel_rfl) (by kernel_rfl) (by kernel_rfl) (by exact fun _ _ _ h => h) (Or.inl ⟨by rfl, by intro w' hSw; (try dsimp only at hSw); first | (go_simp; done) | (go_simp; with_reducible rfl)⟩) hHeld ?_
          simp only [Act.put, List.setIfInBounds_toArray, List.set_cons_zero, List.set_cons_succ]
          refine wpAnyH_take (i := 3) (oi := _) (v := _) (by simp only [List.getElem?_toArray, List.getElem?_cons_succ, List.getElem?_cons_zero]; rfl) (by kernel_rfl) (by kernel_rfl) (by kernel_rfl) (by exact fun _ _ _ h => h) (Or.inl ⟨by rfl, by intro w' hSw; (try dsimp only at hSw); first | (go_simp; done) | (go_simp; with_reducible rfl)⟩) hHeld ?_
          simp only [Act.put, List.setIfInBounds_toArray, List.set_cons_zero, List.set_cons_succ]
          refine wpAnyH_take (i := 4) (oi := _) (v := _) (by simp only [List.getElem?_toArray, List.getElem?_cons_succ, List.getElem?_cons_zero]; rfl) (by kernel_rfl) (by kernel_rfl) (by kernel_rfl) (by exact fun _ _ _ h => h) (Or.inl ⟨by rfl, by intro w' hSw; (try dsimp only at hSw); first | (go_simp; done) | (go_simp; with_reducible rfl)⟩) hHeld ?_
          simp only [Act.put, List.setIfInBounds_toArray, List.set_cons_zero, List.set_cons_succ]
          refine wpAnyH_take (i := 5) (oi := _) (v := _) (by simp only [List.getElem?_toArray, List.getElem?_cons_succ, List.getElem?_cons_zero]; rfl) (by kernel_rfl) (by kernel_rfl) (by kernel_rfl) (by exact fun _ _ _ h => h) (Or.inl ⟨by rfl, by intro w' hSw; (try dsimp only at hSw); first | (go_simp; done) | (go_simp; with_reducible rfl)⟩) hHeld ?_
          simp only [Act.put, List.setIfInBounds_toArray, List.set_cons_zero, List.set_cons_succ]
          refine wpAnyH_ready (rs := [6]) (by kernel_rfl) (by simp) ?_
          refine AllReadyH.cons rfl (fun K hK => ?_) AllReadyH.nil
          generalize (WZ.setCell ⟨g2, k * 2, none⟩ (.int .i64 pos)).drew = w5 at *
          obtain ⟨y0, y1, f0, f1⟩ := agg2 HY5'.out
          go_simp
          obtain ⟨w6, hw6⟩ : ∃ w6, w6 = (w5.setCell ⟨w.heap.size + 1, 0, none⟩ (.int .i64 (ver + 1))).setCell ⟨w.heap.size + 1, 1, none⟩ (.slice (some ⟨g2, 0, none⟩) n cap2) := ⟨_, rfl⟩
          rw [← hw6]
          have HZ6 : w6.heap[yb]? = some (.cells #[.int .i64 (ver + 1), (.slice (some ⟨g2, 0, none⟩) n cap2)] 29 (0, 0)) := by rw [hw6]; exact (set2_other (by omega) _ _).trans HZ5'.out
          have HX6 : w6.heap[w.heap.size]? = some (.cells #[.int .i64 ver, .slice (some ⟨g, 0, none⟩) n cap] 29 (0, 0)) := by rw [hw6]; exact (set2_other (by omega) _ _).trans HX5'.out
          have HY6 : Hid (w6.heap[w.heap.size + 1]? = some (.cells #[.int .i64 (ver + 1), (.slice (some ⟨g2, 0, none⟩) n cap2)] 29 (0, 0))) := by rw [hw6]; exact set2_heap HY5'.out _ _
          have HE6 : Hid (w6.heap[w.heap.size + 1 + 1]? = some (.cells #[.int .i64 0, .int .i64 0] 39 (0, 0))) := by rw [hw6]; exact (set2_other (by omega) _ _).trans HE5'.out
          have HR6 : Hid (RowR w6 w1.heap.size (.slice (some ⟨g2, 0, none⟩) n cap2) (movL l k pos)) := by rw [hw6]; exact row_keep HR5.out (fun g' e => set2_other (by cases e; show g2 ≠ _; omega) _ _)
          have HB6 : Hid (Below w.heap.size w w6) := by rw [hw6]; exact set2_below HB5.out _ (by omega) _ _
          obtain ⟨q0, q1, _, _⟩ := agg2 HZ6
          obtain ⟨_, q2, _, _⟩ := agg2 HX6
          obtain ⟨q3, q4⟩ := HKL.out w6 (row_below HR.out HB6.out (Nat.le_refl _))
          have HZ6' : Hid (_ = _) := HZ6
          have HX6' : Hid (_ = _) := HX6
          refine hK.out _ _ ⟨q0, q1, q2, q3, q4⟩ (fun hHeld => ?_)
          clear hK K y0 y1 f0 f1 hw6 HZ6 HX6 q0 q1 q2 q3 q4
          refine wpAnyH_ready (rs := [7]) (by kernel_rfl) (by simp) ?_
          refine AllReadyH.cons rfl (fun K hK => ?_) AllReadyH.nil
          obtain ⟨y0, y1, f0, f1⟩ := agg2 HE6.out
          go_simp
          obtain ⟨w7, hw7⟩ : ∃ w7, w7 = (w6.setCell ⟨w.heap.size + 1 + 1, 0, none⟩ (.int .i64 yp)).setCell ⟨w.heap.size + 1 + 1, 1, none⟩ (.int .i64 yl) := ⟨_, rfl⟩
          rw [← hw7]
          have HZ7 : w7.heap[yb]? = some (.cells #[.int .i64 (ver + 1), (.slice (some ⟨g2, 0, none⟩) n cap2)] 29 (0, 0)) := by rw [hw7]; exact (set2_other (by omega) _ _).trans HZ6'.out
          have HX7 : w7.heap[w.heap.size]? = some (.cells #[.int .i64 ver, .slice (some ⟨g, 0, none⟩) n cap] 29 (0, 0)) := by rw [hw7]; exact (set2_other (by omega) _ _).trans HX6'.out
          have HY7 : Hid (w7.heap[w.heap.size + 1]? = some (.cells #[.int .i64 (ver + 1), (.slice (some ⟨g2, 0, none⟩) n cap2)] 29 (0, 0))) := by rw [hw7]; exact (set2_other (by omega) _ _).trans HY6.out
          have HE7 : Hid (w7.heap[w.heap.size + 1 + 1]? = some (.cells #[.int .i64 yp, .int .i64 yl] 39 (0, 0))) := by rw [hw7]; exact set2_heap HE6.out _ _
          have HR7 : Hid (RowR w7 w1.heap.size (.slice (some ⟨g2, 0, none⟩) n cap2) (movL l k pos)) := by rw [hw7]; exact row_keep HR6.out (fun g' e => set2_other (by cases e; show g2 ≠ _; omega) _ _)
          have HB7 : Hid (Below w.heap.size w w7) := by rw [hw7]; exact set2_below HB6.out _ (by omega) _ _
          obtain ⟨q0, q1, _, _⟩ := agg2 HZ7
          obtain ⟨_, q2, _, _⟩ := agg2 HX7
          obtain ⟨q3, q4⟩ := HKL.out w7 (row_below HR.out HB7.out (Nat.le_refl _))
          refine hK.out _ _ ⟨q0, q1, q2, q3, q4⟩ (fun hHeld => ?_)
          clear hK K y0 y1 f0 f1 hw7 HZ7 HX7 q0 q1 q2 q3 q4
          refine wpAnyH_take (i := 8) (oi := _) (v := _) (by simp only [List.getElem?_toArray, List.getElem?_cons_succ, List.getElem?_cons_zero]; rfl) (by kernel_rfl) (by kernel_rfl) (by kernel_rfl) (by exact fun _ _ _ h => h) (Or.inl ⟨by rfl, by intro w' hSw; (try dsimp only at hSw); first | (go_simp; done) | (go_simp; with_reducible rfl)⟩) hHeld ?_
          simp only [Act.put, List.setIfInBounds_toArray, List.set_cons_zero, List.set_cons_succ]
          refine wpAnyH_done (by kernel_rfl) ?_ _
          go_wp2
          refine bodyPost_ret (res_moveR _ (w.heap.size + 1) _ (ver + 1) (some ⟨g2, 0, none⟩) n cap2 yp yl _ rfl rfl rfl HY7.out HE7.out) rfl ?_
          exact ⟨⟨ver + 1, (.slice (some ⟨g2, 0, none⟩) n cap2), ⟨yp, yl⟩, by rw [HM.out]; rfl, fun _ => ⟨rfl, row_base HR7.out (by omega), HKE.out⟩, fun h => absurd HM.out h⟩, HB7.out⟩
    · have HM : Hid (movE l k pos = 1) := by show _ = _; unfold movE; rw [if_neg hneg, Int.toNat_natCast, List.getElem?_eq_none (by omega)]
      have hlt2 : decide ((n : Int) ≤ (k : Int)) = true := decide_eq_true (by omega)
      have hlt3 : decide (n ≤ k) = true := decide_eq_true (by omega)
      have hlt4 : n ≤ k := by omega
      go_enter Tryd.func9, Tryd.ntmps9
      go_wp2_with fail
      rw [← hw0]
      clear hw0
      refine wp_region_held_drew (S := fun W => W.cell? ⟨w.heap.size, 1, none⟩ = some (.slice a n cap)) (by kernel_rfl) (by exact x1) (fun hHeld => ?_)
      change wpAnyH _ _ _ _ _ 21 (Array.replicate 21 false) _ _
      refine wpAnyH_take (i := 0) (oi := _) (v := _) (by simp only [List.getElem?_toArray, List.getElem?_cons_zero]; rfl) (by kernel_rfl) (by kernel_rfl) (by kernel_rfl) (by exact fun _ _ _ h => h) (Or.inl ⟨by rfl, by intro w' hSw; (try dsimp only at hSw); first | (go_simp; done) | (go_simp; with_reducible rfl)⟩) hHeld ?_
      simp only [Act.put, List.setIfInBounds_toArray, List.set_cons_zero, List.set_cons_succ]
      refine wpAnyH_take (i := 1) (oi := _) (v := _) (by simp only [List.getElem?_toArray, List.getElem?_cons_succ, List.getElem?_cons_zero]; rfl) (by kernel_rfl) (by kernel_rfl) (by kernel_rfl) (by exact fun _ _ _ h => h) (Or.inl ⟨by rfl, by intro w' hSw; (try dsimp only at hSw); first | (go_simp; done) | (go_simp; with_reducible rfl)⟩) hHeld ?_
      simp only [Act.put, List.setIfInBounds_toArray, List.set_cons_zero, List.set_cons_succ]
      refine wpAnyH_take (i := 2) (oi := _) (v := _) (by simp only [List.getElem?_toArray, List.getElem?_cons_succ, List.getElem?_cons_zero]; rfl) (by kernel_rfl) (by kernel_rfl) (by kernel_rfl) (by exact fun _ _ _ h => h) (Or.inl ⟨by rfl, by intro w' hSw; (try dsimp only at hSw); first | (go_simp; done) | (go_simp; with_reducible rfl)⟩) hHeld ?_
      simp only [Act.put, List.setIfInBounds_toArray, List.set_cons_zero, List.set_cons_succ]
      refine wpAnyH_take (i := 3) (oi := _) (v := _) (by simp only [List.getElem?_toArray, List.getElem?_cons_succ, List.getElem?_cons_zero]; rfl) (by kernel_rfl) (by kernel_rfl) (by kernel_rfl) (by exact fun _ _ _ h => h) (Or.inl ⟨by rfl, by intro w' hSw; (try dsimp only at hSw); first | (go_simp; done) | (go_simp; with_reducible rfl)⟩) hHeld ?_
      simp only [Act.put, List.setIfInBounds_toArray, List.set_cons_zero, List.set_cons_succ]
      refine wpAnyH_take (i := 4) (oi := _) (v := _) (by simp only [List.getElem?_toArray, List.getElem?_cons_succ, List.getElem?_cons_zero]; rfl) (by kernel_rfl) (by kernel_rfl) (by kernel_rfl) (by exact fun _ _ _ h => h) (Or.inl ⟨by rfl, by intro w' hSw; (try dsimp only at hSw); first | (go_simp; done) | (go_simp; with_reducible rfl)⟩) hHeld ?_
      simp only [Act.put, List.setIfInBounds_toArray, List.set_cons_zero, List.set_cons_succ]
      refine wpAnyH_take (i := 5) (oi := _) (v := _) (by simp only [List.getElem?_toArray, List.getElem?_cons_succ, List.getElem?_cons_zero]; rfl) (by kernel_rfl) (by kernel_rfl) (by kernel_rfl) (by exact fun _ _ _ h => h) (Or.inl ⟨by rfl, by intro w' hSw; (try dsimp only at hSw); first | (go_simp; done) | (go_simp; with_reducible rfl)⟩) hHeld ?_
      simp only [Act.put, List.setIfInBounds_toArray, List.set_cons_zero, List.set_cons_succ]
      refine wpAnyH_take (i := 6) (oi := _) (v := _) (by simp only [List.getElem?_toArray, List.getElem?_cons_succ, List.getElem?_cons_zero]; rfl) (by kernel_rfl) (by kernel_rfl) (by kernel_rfl) (by exact fun _ _ _ h => h) (Or.inl ⟨by rfl, by intro w' hSw; (try dsimp only at hSw); first | (go_simp; done) | (go_simp; with_reducible rfl)⟩) hHeld ?_
      simp only [Act.put, List.setIfInBounds_toArray, List.set_cons_zero, List.set_cons_succ]
      refine wpAnyH_take (i := 7) (oi := _) (v := _) (by simp only [List.getElem?_toArray, List.getElem?_cons_succ, List.getElem?_cons_zero]; rfl) (by kernel_rfl) (by kernel_rfl) (by kernel_rfl) (by exact fun _ _ _ h => h) (Or.inl ⟨by rfl, by intro w' hSw; (try dsimp only at hSw); first | (go_simp; done) | (go_simp; with_reducible rfl)⟩) hHeld ?_
      simp only [Act.put, List.setIfInBounds_toArray, List.set_cons_zero, List.set_cons_succ]
      refine wpAnyH_take (i := 8) (oi := _) (v := _) (by simp only [List.getElem?_toArray, List.getElem?_cons_succ, List.getElem?_cons_zero]; rfl) (by kernel_rfl) (by kernel_rfl) (by kernel_rfl) (by exact fun _ _ _ h => h) (Or.inl ⟨by rfl, by intro w' hSw; (try dsimp only at hSw); first | (go_simp; done) | (go_simp; with_reducible rfl)⟩) hHeld ?_
      simp only [Act.put, List.setIfInBounds_toArray, List.set_cons_zero, List.set_cons_succ]
      refine wpAnyH_take (i := 9) (oi := _) (v := _) (by simp only [List.getElem?_toArray, List.getElem?_cons_succ, List.getElem?_cons_zero]; rfl) (by kernel_rfl) (by kernel_rfl) (by kernel_rfl) (by exact fun _ _ _ h => h) (Or.inl ⟨by rfl, by intro w' hSw; (try dsimp only at hSw); first | (go_simp; done) | (go_simp; with_reducible rfl)⟩) hHeld ?_
      simp only [Act.put, List.setIfInBounds_toArray, List.set_cons_zero, List.set_cons_succ]
      refine wpAnyH_take (i := 10) (oi := _) (v := undef) (by simp only [List.getElem?_toArray, List.getElem?_cons_succ, List.getElem?_cons_zero]; rfl) (by kernel_rfl) (by kernel_rfl) (by kernel_rfl) (by exact fun _ _ _ h => h) (Or.inr ⟨by rfl, rfl⟩) hHeld ?_
      simp only [Act.put, List.setIfInBounds_toArray, List.set_cons_zero, List.set_cons_succ]
      refine wpAnyH_take (i := 11) (oi := _) (v := undef) (by simp only [List.getElem?_toArray, List.getElem?_cons_succ, List.getElem?_cons_zero]; rfl) (by kernel_rfl) (by kernel_rfl) (by kernel_rfl) (by exact fun _ _ _ h => h) (Or.inr ⟨by rfl, rfl⟩) hHeld ?_
      simp only [Act.put, List.setIfInBounds_toArray, List.set_cons_zero, List.set_cons_succ]
      refine wpAnyH_take (i := 12) (oi := _) (v := undef) (by simp only [List.getElem?_toArray, List.getElem?_cons_succ, List.getElem?_cons_zero]; rfl) (by kernel_rfl) (by kernel_rfl) (by kernel_rfl) (by exact fun _ _ _ h => h) (Or.inr ⟨by rfl, rfl⟩) hHeld ?_
      simp only [Act.put, List.setIfInBounds_toArray, List.set_cons_zero, List.set_cons_succ]
      refine wpAnyH_take (i := 13) (oi := _) (v := undef) (by simp only [List.getElem?_toArray, List.getElem?_cons_succ, List.getElem?_cons_zero]; rfl) (by kernel_rfl) (by kernel_rfl) (by kernel_rfl) (by exact fun _ _ _ h => h) (Or.inr ⟨by rfl, rfl⟩) hHeld ?_
      simp only [Act.put, List.setIfInBounds_toArray, List.set_cons_zero, List.set_cons_succ]
      refine wpAnyH_take (i := 14) (oi := _) (v := undef) (by simp only [List.getElem?_toArray, List.getElem?_cons_succ, List.getElem?_cons_zero]; rfl) (by kernel_rfl) (by kernel_rfl) (by kernel_rfl) (by exact fun _ _ _ h => h) (Or.inr ⟨by rfl, rfl⟩) hHeld ?_
      simp only [Act.put, List.setIfInBounds_toArray, List.set_cons_zero, List.set_cons_succ]
      refine wpAnyH_take (i := 15) (oi := _) (v := undef) (by simp only [List.getElem?_toArray, List.getElem?_cons_succ, List.getElem?_cons_zero]; rfl) (by kernel_rfl) (by kernel_rfl) (by kernel_rfl) (by exact fun _ _ _ h => h) (Or.inr ⟨by rfl, rfl⟩) hHeld ?_
      simp only [Act.put, List.setIfInBounds_toArray, List.set_cons_zero, List.set_cons_succ]
      refine wpAnyH_take (i := 16) (oi := _) (v := undef) (by simp only [List.getElem?_toArray, List.getElem?_cons_succ, List.getElem?_cons_zero]; rfl) (by kernel_rfl) (by kernel_rfl) (by kernel_rfl) (by exact fun _ _ _ h => h) (Or.inr ⟨by rfl, rfl⟩) hHeld ?_
      simp only [Act.put, List.setIfInBounds_toArray, List.set_cons_zero, List.set_cons_succ]
      refine wpAnyH_take (i := 17) (oi := _) (v := undef) (by simp only [List.getElem?_toArray, List.getElem?_cons_succ, List.getElem?_cons_zero]; rfl) (by kernel_rfl) (by kernel_rfl) (by kernel_rfl) (by exact fun _ _ _ h => h) (Or.inr ⟨by rfl, rfl⟩) hHeld ?_
      simp only [Act.put, List.setIfInBounds_toArray, List.set_cons_zero, List.set_cons_succ]
      refine wpAnyH_take (i := 18) (oi := _) (v := undef) (by simp only [List.getElem?_toArray, List.getElem?_cons_succ, List.getElem?_cons_zero]; rfl) (by kernel_rfl) (by kernel_rfl) (by kernel_rfl) (by exact fun _ _ _ h => h) (Or.inr ⟨by rfl, rfl⟩) hHeld ?_
      simp only [Act.put, List.setIfInBounds_toArray, List.set_cons_zero, List.set_cons_succ]
      refine wpAnyH_take (i := 19) (oi := _) (v := undef) (by simp only [List.getElem?_toArray, List.getElem?_cons_succ, List.getElem?_cons_zero]; rfl) (by kernel_rfl) (by kernel_rfl) (by kernel_rfl) (by exact fun _ _ _ h => h) (Or.inr ⟨by rfl, rfl⟩) hHeld ?_
      simp only [Act.put, List.setIfInBounds_toArray, List.set_cons_zero, List.set_cons_succ]
      refine wpAnyH_take (i := 20) (oi := _) (v := _) (by simp only [List.getElem?_toArray, List.getElem?_cons_succ, List.getElem?_cons_zero]; rfl) (by kernel_rfl) (by kernel_rfl) (by kernel_rfl) (by exact fun _ _ _ h => h) (Or.inl ⟨by rfl, by intro w' hSw; (try dsimp only at hSw); first | (go_simp; done) | (go_simp; with_reducible rfl)⟩) hHeld ?_
      simp only [Act.put, List.setIfInBounds_toArray, List.set_cons_zero, List.set_cons_succ]
      refine wpAnyH_done (by kernel_rfl) ?_ _
      have HYd : w0.drew.heap[w.heap.size + 1]? = some (.cells #[.int .i64 0, .slice none 0 0] 29 (0, 0)) := HY0.out
      have HEd : ((w0.drew.setCell ⟨w.heap.size + 1, 0, none⟩ (.int .i64 0)).setCell ⟨w.heap.size + 1, 1, none⟩ (.slice none 0 0)).heap[w.heap.size + 1 + 1]? = some (.cells #[.int .i64 0, .int .i64 0] 39 (0, 0)) := (set2_other (by omega) _ _).trans HE0.out
      have HYd' : Hid (_ = _) := HYd
      have HEd' : Hid (_ = _) := HEd
      have HBd : Hid (Below w.heap.size w w0.drew) := HB0.out.drew
      obtain ⟨y0, y1, f0, f1⟩ := agg2 HYd
      obtain ⟨v0, v1, v2, v3⟩ := agg2 HEd
      clear HYd HEd HB0 HY0 HE0 HX0 hHeld x0 x1 x2 x3
      generalize w0.drew = wd at *
      go_wp2
      refine bodyPost_ret (res_moveR _ (w.heap.size + 1) _ 0 none 0 0 0 0 _ rfl rfl rfl ((set2_other (by omega) _ _).trans (set2_heap HYd'.out _ _)) (set2_heap HEd'.out _ _)) rfl ?_
      exact ⟨⟨0, .slice none 0 0, ⟨0, 0⟩, by rw [HM.out]; rfl, (fun h => by rw [HM.out] at h; cases h), fun _ => ⟨rfl, rfl, rfl⟩⟩, set2_below (set2_below HBd.out _ (by omega) _ _) _ (by omega) _ _⟩

end Go.Proofs.YtadimbpgdihjlaaDoor.Id
