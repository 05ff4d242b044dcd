/-
  An inode of which an extent is moved. Condition: extents that lie below 2048.
-/
import Derived.Test.YtadimbpgdihjlaaDoorIdRt
namespace Go.Proofs.YtadimbpgdihjlaaDoor.Id
open Go.ChangeShapes Go.WideShapes Go.ChangeAt Go.RowKit Go.Proofs.Fa

variable {w : World} {B : Nat}
set_option maxRecDepth 100000
set_option maxHeartbeats 1000000

/-- Which error moving has. -/
def movE (l : List Ext) (i : Int) (pos : Int) : Int := if i < 0 then 1 else match l[i.toNat]? with
  | none => 1
  | some e => if mayF l ⟨pos, e.len⟩ = true then 0 else 1
/-- What Move answers. -/
def MoveAt (w : World) (ver : Int) (l : List Ext) (i pos : Int) (r : Ending) (w' : World) : Prop :=
  (∃ ver' v' e', r = .returned (.tuple #[ino ver' v', Ext.agg e', errV (movE l i pos)]) ∧ (movE l i pos = 0 → ver' = ver + 1 ∧ Row w' w.heap.size v' (movL l i.toNat pos) ∧ l[i.toNat]? = some e') ∧ (movE l i pos ≠ 0 → ver' = 0 ∧ v' = .slice none 0 0 ∧ e' = ⟨0, 0⟩)) ∧ Below w.heap.size w w'

theorem res_move (tm : Array Value) (rb : Nat) (W : World) (ver : Int) (a : Option Addr) (n c : Nat) (p q : Int) (er : Value) (h4 : tm[6]? = some (.pointer (some ⟨rb, 0, none⟩))) (h5 : tm[7]? = some (.pointer (some ⟨rb + 1, 0, none⟩))) (h6 : tm.getD 8 undef = er) (h : W.heap[rb]? = some (.cells #[.int .i64 ver, .slice a n c] 26 (0, 0))) (h' : W.heap[rb + 1]? = some (.cells #[.int .i64 p, .int .i64 q] 40 (0, 0))) :
    (results Tryd.f8 tm).run Tryd.prog W = .ok (.tuple #[ino ver (.slice a n c), .agg #[.int .i64 p, .int .i64 q], er]) W := by
  obtain ⟨c0, c1, _⟩ := agg2 h
  obtain ⟨c2, c3, _⟩ := agg2 h'
  clear h h'
  subst h6
  simp [results, Tryd.f8, go_sem, h4, h5, c0, c1, c2, c3, ino]

theorem movL_cells (l : List Ext) (k : Nat) (pos : Int) (hk : k < l.length) : (ecells l).set (k * 2) (.int .i64 pos) = ecells (movL l k pos) := by
  induction l generalizing k with
  | nil => simp at hk
  | cons e r ih =>
    cases k with
    | zero => rfl
    | succ k =>
      rw [show (k + 1) * 2 = k * 2 + 1 + 1 by omega]
      simp only [ecells, List.set_cons_succ]
      rw [ih k (by simpa using hk)]
      rfl

theorem move_any (ver : Int) (v : Value) (l : List Ext) (i pos : Int) (hr : Row w B v l) (hn : l.length ≤ 1000) (hl : OkL l) (hv : 0 ≤ ver ∧ ver < 1000000) (he : -9223372036854775808 ≤ pos ∧ pos ≤ 9223372036854775807) :
    Calls Tryd.prog 8 #[ino ver v, .int .i64 i, .int .i64 pos] w fun r w' => MoveAt w ver l i pos r w' := by
  have hmay := fun (w : World) hr (q : Int) => mayHave_any (w := w) (B := B) ver v l ⟨pos, q⟩ hr (by omega) hl he
  have hnext := fun w hr => next_any (w := w) (B := B) ver v l hr (by omega) (by omega)
  obtain ⟨n, hln⟩ : ∃ n, l.length = n := ⟨_, rfl⟩
  obtain ⟨a, cap, hv0, hmx⟩ := row_slice hr
  rw [hln] at hv0 hmx hn
  subst hv0
  have HR : Hid (Row w B (.slice a n cap) l) := hr
  have HL : Hid (OkL l) := hl
  clear hr hl
  simp only [ino, Ext.agg] at *
  obtain ⟨w0, hw0⟩ : ∃ w0, w0 = ((w.alloc (Obj.cells #[.int .i64 ver, .slice a n cap] 26)).alloc (Obj.cells #[.int .i64 0, .slice none 0 0] 26)).alloc (Obj.cells #[.int .i64 0, .int .i64 0] 40) := ⟨_, rfl⟩
  have HB0 : Hid (Below w.heap.size w w0) := by rw [hw0]; exact (((Below.refl _ _).alloc (Nat.le_refl _) _).alloc (by simp) _).alloc (by simp; omega) _
  have HX0 : Hid (w0.heap[w.heap.size]? = some (.cells #[.int .i64 ver, .slice a n cap] 26 (0, 0))) := by
    rw [hw0]; exact ((Below.heap_alloc _ _ _ (by simp; omega)).trans (Below.heap_alloc _ _ _ (by simp))).trans (heap_alloc_new w _)
  have HY0 : Hid (w0.heap[w.heap.size + 1]? = some (.cells #[.int .i64 0, .slice none 0 0] 26 (0, 0))) := by
    rw [hw0]
    have := heap_alloc_new (w.alloc (Obj.cells #[.int .i64 ver, .slice a n cap] 26)) (Obj.cells #[.int .i64 0, .slice none 0 0] 26)
    rw [World.size_alloc] at this
    exact (Below.heap_alloc _ _ _ (by simp)).trans this
  have HE0 : Hid (w0.heap[w.heap.size + 2]? = some (.cells #[.int .i64 0, .int .i64 0] 40 (0, 0))) := by
    rw [hw0]
    have := heap_alloc_new ((w.alloc (Obj.cells #[.int .i64 ver, .slice a n cap] 26)).alloc (Obj.cells #[.int .i64 0, .slice none 0 0] 26)) (Obj.cells #[.int .i64 0, .int .i64 0] 40)
    rw [World.size_alloc, World.size_alloc] at this
    exact this
  by_cases hneg : i < 0
  · have HM : Hid (movE l i pos = 1) := by show _ = _; unfold movE; rw [if_pos hneg]
    go_enter Tryd.func8, Tryd.ntmps8
    go_wp2
    rw [← hw0]
    refine bodyPost_ret (res_move _ (w.heap.size + 1) _ 0 none 0 0 0 0 _ rfl rfl rfl HY0.out HE0.out) rfl ?_
    exact ⟨⟨0, .slice none 0 0, ⟨0, 0⟩, by rw [HM.out]; rfl, (fun h => by rw [HM.out] at h; cases h), fun _ => ⟨rfl, rfl, rfl⟩⟩, HB0.out⟩
  · obtain ⟨k, rfl⟩ : ∃ k : Nat, i = k := ⟨i.toNat, by omega⟩
    by_cases hlt : k < n
    · obtain ⟨x0, x1, x2, x3⟩ := agg2 HX0.out
      rw [hw0] at x0 x1
      have hRk : Row w0 B _ l := row_below HR.out HB0.out (Nat.le_refl _)
      obtain ⟨g, cap', he⟩ := row_some hRk (by omega)
      rw [hln] at he
      cases he
      obtain ⟨e0, e1⟩ := hRk.ext k (by omega)
      rw [hw0] at e0 e1
      clear hRk
      have hkl : k < l.length := by omega
      have HKE : Hid (l[k]? = some l[k]) := List.getElem?_eq_getElem hkl
      have hME : movE l k pos = if mayF l ⟨pos, l[k].len⟩ = true then 0 else 1 := by unfold movE; rw [if_neg hneg, Int.toNat_natCast, HKE.out]
      have HMC : Hid ((ecells l).set (k * 2) (.int .i64 pos) = ecells (movL l k pos)) := movL_cells l k pos hkl
      clear hneg
      generalize l[k] = y at *
      obtain ⟨yp, yl⟩ := y
      dsimp only at e0 e1 hME
      obtain ⟨w1, hw1⟩ : ∃ w1, w1 = w0.alloc (Obj.cells #[.int .i64 yp, .int .i64 yl] 40) := ⟨_, rfl⟩
      have hs0 : w0.heap.size = w.heap.size + 3 := by rw [hw0]; simp
      have HB1 : Hid (Below w.heap.size w w1) := by rw [hw1]; exact HB0.out.alloc HB0.out.size _
      have HX1 : Hid (w1.heap[w.heap.size]? = some (.cells #[.int .i64 ver, .slice (some ⟨g, 0, none⟩) n cap] 26 (0, 0))) := by rw [hw1]; exact (Below.heap_alloc _ _ _ (lt_of_heap HX0.out)).trans HX0.out
      have HY1 : Hid (w1.heap[w.heap.size + 1]? = some (.cells #[.int .i64 0, .slice none 0 0] 26 (0, 0))) := by rw [hw1]; exact (Below.heap_alloc _ _ _ (lt_of_heap HY0.out)).trans HY0.out
      have HE1 : Hid (w1.heap[w.heap.size + 2]? = some (.cells #[.int .i64 0, .int .i64 0] 40 (0, 0))) := by rw [hw1]; exact (Below.heap_alloc _ _ _ (lt_of_heap HE0.out)).trans HE0.out
      have HA1 : Hid (w1.heap[w.heap.size + 3]? = some (.cells #[.int .i64 yp, .int .i64 yl] 40 (0, 0))) := by rw [hw1, ← hs0]; exact heap_alloc_new _ _
      clear hs0
      go_enter Tryd.func8, Tryd.ntmps8
      go_wp2_with fail
      rw [← hw0, ← hw1]
      refine (hmay w1 (row_below HR.out HB1.out (Nat.le_refl _)) yl).mono ?_
      rintro r w2 ⟨rfl, hb2⟩
      have HB2 : Hid (Below w.heap.size w w2) := HB1.out.trans (hb2.mono HB1.out.size)
      have HX2 : Hid (w2.heap[w.heap.size]? = some (.cells #[.int .i64 ver, .slice (some ⟨g, 0, none⟩) n cap] 26 (0, 0))) := (hb2.block _ (lt_of_heap HX1.out)).trans HX1.out
      have HY2 : Hid (w2.heap[w.heap.size + 1]? = some (.cells #[.int .i64 0, .slice none 0 0] 26 (0, 0))) := (hb2.block _ (lt_of_heap HY1.out)).trans HY1.out
      have HE2 : Hid (w2.heap[w.heap.size + 2]? = some (.cells #[.int .i64 0, .int .i64 0] 40 (0, 0))) := (hb2.block _ (lt_of_heap HE1.out)).trans HE1.out
      have HA2 : Hid (w2.heap[w.heap.size + 3]? = some (.cells #[.int .i64 yp, .int .i64 yl] 40 (0, 0))) := (hb2.block _ (lt_of_heap HA1.out)).trans HA1.out
      clear hmay hb2 hw0 hw1 HB0 HX0 HY0 HE0 HB1 HX1 HY1 HE1 HA1 x0 x1 x2 x3 e0 e1
      cases hm : mayF l ⟨pos, yl⟩
      · have HM : Hid (movE l k pos = 1) := by show _ = _; rw [hME, hm]; rfl
        clear hME hnext
        have HY2' : w2.heap[w.heap.size + 1]? = some (.cells #[.int .i64 0, .slice none 0 0] 26 (0, 0)) := HY2.out
        obtain ⟨y0, y1, f0, f1⟩ := agg2 HY2'
        have HE6 : ((w2.setCell ⟨w.heap.size + 1, 0, none⟩ (.int .i64 0)).setCell ⟨w.heap.size + 1, 1, none⟩ (.slice none 0 0)).heap[w.heap.size + 1 + 1]? = some (.cells #[.int .i64 0, .int .i64 0] 40 (0, 0)) := (set2_other (by omega) _ _).trans HE2.out
        obtain ⟨v0, v1, v2, v3⟩ := agg2 HE6
        go_wp2
        refine bodyPost_ret (res_move _ (w.heap.size + 1) _ 0 none 0 0 0 0 _ rfl rfl rfl ((set2_other (by omega) _ _).trans (set2_heap HY2.out _ _)) (set2_heap HE6 _ _)) rfl ?_
        exact ⟨⟨0, .slice none 0 0, ⟨0, 0⟩, by rw [HM.out]; rfl, (fun h => by rw [HM.out] at h; cases h), fun _ => ⟨rfl, rfl, rfl⟩⟩, set2_below (set2_below HB2.out _ (by omega) _ _) _ (by omega) _ _⟩
      · have HM : Hid (movE l k pos = 0) := by show _ = _; rw [hME, hm]; rfl
        clear hME
        have hN := hnext w2 (row_below HR.out HB2.out (Nat.le_refl _))
        obtain ⟨x0, x1, fx0, fx1⟩ := agg2 HX2.out
        clear hnext
        go_wp2_with fail
        refine hN.mono ?_
        rintro r w3 ⟨v3, rfl, hr3, hb3⟩
        obtain ⟨a3, cap3, hv3, _⟩ := row_slice hr3
        rw [hln] at hv3
        subst hv3
        obtain ⟨g3, cap3', he3⟩ := row_some hr3 (by omega)
        rw [hln] at he3
        cases he3
        have HB3 : Hid (Below w.heap.size w w3) := HB2.out.trans (hb3.mono HB2.out.size)
        have HY3 : Hid (w3.heap[w.heap.size + 1]? = some (.cells #[.int .i64 0, .slice none 0 0] 26 (0, 0))) := (hb3.block _ (lt_of_heap HY2.out)).trans HY2.out
        have HE3 : Hid (w3.heap[w.heap.size + 2]? = some (.cells #[.int .i64 0, .int .i64 0] 40 (0, 0))) := (hb3.block _ (lt_of_heap HE2.out)).trans HE2.out
        have HA3 : Hid (w3.heap[w.heap.size + 3]? = some (.cells #[.int .i64 yp, .int .i64 yl] 40 (0, 0))) := (hb3.block _ (lt_of_heap HA2.out)).trans HA2.out
        have HR3 : Hid (Row w3 (w.heap.size + 4) (.slice (some ⟨g3, 0, none⟩) n cap3) l) := row_base hr3 (lt_of_heap HA2.out)
        have hg3 : g3 < w3.heap.size := row_lt hr3 g3 rfl
        have hg3' : w.heap.size + 4 ≤ g3 := row_ge HR3.out g3 rfl
        clear hN hb3 hr3 HB2 HX2 HY2 HE2 HA2 x0 x1 fx0 fx1
        obtain ⟨w4, hw4⟩ : ∃ w4, w4 = w3.alloc (Obj.cells #[.int .i64 (ver + 1), .slice (some ⟨g3, 0, none⟩) n cap3] 26) := ⟨_, rfl⟩
        have HZ4 : Hid (w4.heap[w3.heap.size]? = some (.cells #[.int .i64 (ver + 1), .slice (some ⟨g3, 0, none⟩) n cap3] 26 (0, 0))) := by rw [hw4]; exact heap_alloc_new _ _
        have HB4 : Hid (Below w.heap.size w w4) := by rw [hw4]; exact HB3.out.alloc HB3.out.size _
        have HY4 : Hid (w4.heap[w.heap.size + 1]? = some (.cells #[.int .i64 0, .slice none 0 0] 26 (0, 0))) := by rw [hw4]; exact (Below.heap_alloc _ _ _ (lt_of_heap HY3.out)).trans HY3.out
        have HE4 : Hid (w4.heap[w.heap.size + 2]? = some (.cells #[.int .i64 0, .int .i64 0] 40 (0, 0))) := by rw [hw4]; exact (Below.heap_alloc _ _ _ (lt_of_heap HE3.out)).trans HE3.out
        have HA4 : Hid (w4.heap[w.heap.size + 3]? = some (.cells #[.int .i64 yp, .int .i64 yl] 40 (0, 0))) := by rw [hw4]; exact (Below.heap_alloc _ _ _ (lt_of_heap HA3.out)).trans HA3.out
        have HR4 : Hid (Row w4 (w.heap.size + 4) (.slice (some ⟨g3, 0, none⟩) n cap3) l) := by rw [hw4]; exact World.ownsRow.alloc HR3.out _
        obtain ⟨zz0, zz1, zf0, zf1⟩ := agg2 HZ4.out
        obtain ⟨r0, r1⟩ := HR4.out.ext k hkl
        have rf : w4.frozen? ⟨g3, k * 2, none⟩ = false := World.ownsRow.frozenAt (n := n) (by have := HR4.out; unfold Row at this; rw [hln] at this; exact this) _
        rw [hw4] at zz0 zz1 zf0 zf1 r0 r1 rf
        clear HB4 HY4 HE4 HA4 HR4 HZ4
        go_wp2_with fail
        clear hw4 zz0 zz1 zf0 zf1 r0 r1 rf w4
        obtain ⟨w5, hw5⟩ : ∃ w5, w5 = ((w3.setCell ⟨g3, k * 2, none⟩ (.int .i64 pos)).alloc (Obj.cells #[.int .i64 (ver + 1), .slice (some ⟨g3, 0, none⟩) n cap3] 26)).drew := ⟨_, rfl⟩
        have hsz : (w3.setCell ⟨g3, k * 2, none⟩ (.int .i64 pos)).heap.size = w3.heap.size := by simp [World.setCell]
        have HZ5 : w5.heap[w3.heap.size]? = some (.cells #[.int .i64 (ver + 1), .slice (some ⟨g3, 0, none⟩) n cap3] 26 (0, 0)) := by
          rw [hw5]
          have := heap_alloc_new (w3.setCell ⟨g3, k * 2, none⟩ (.int .i64 pos)) (Obj.cells #[.int .i64 (ver + 1), .slice (some ⟨g3, 0, none⟩) n cap3] 26)
          rw [hsz] at this
          exact this
        have hold : ∀ j o, w3.heap[j]? = some o → j ≠ g3 → w5.heap[j]? = some o := by
          intro j o hj hne
          rw [hw5]
          exact ((Below.heap_alloc _ _ _ (by rw [hsz]; exact lt_of_heap hj)).trans (heap_setCell_other _ ⟨g3, k * 2, none⟩ _ _ hne)).trans hj
        have HY5 : w5.heap[w.heap.size + 1]? = some (.cells #[.int .i64 0, .slice none 0 0] 26 (0, 0)) := hold _ _ HY3.out (by omega)
        have HE5 : w5.heap[w.heap.size + 1 + 1]? = some (.cells #[.int .i64 0, .int .i64 0] 40 (0, 0)) := hold _ _ HE3.out (by omega)
        have HA5 : w5.heap[w.heap.size + 1 + 1 + 1]? = some (.cells #[.int .i64 yp, .int .i64 yl] 40 (0, 0)) := hold _ _ HA3.out (by omega)
        have HR5 : Hid (Row w5 (w.heap.size + 4) (.slice (some ⟨g3, 0, none⟩) n cap3) (movL l k pos)) := by
          have h4 := HR3.out
          unfold Row at h4
          rw [hln] at h4
          have h5 := World.ownsRow.drew (World.ownsRow.alloc (World.ownsRow.stored h4 (k * 2) (.int .i64 pos)).1 (Obj.cells #[.int .i64 (ver + 1), .slice (some ⟨g3, 0, none⟩) n cap3] 26))
          rw [hw5]
          show World.ownsRow _ _ _ _ _ _ _
          rw [movL_length, hln, ← HMC.out]
          exact h5
        have HB5 : Hid (Below w.heap.size w w5) := by
          rw [hw5]
          exact ((HB3.out.setCell (p := ⟨g3, k * 2, none⟩) (by show w.heap.size ≤ g3; omega) _).alloc (by rw [hsz]; exact HB3.out.size) _).drew
        have hy1 := lt_of_heap HA3.out
        obtain ⟨z0, z1, _, _⟩ := agg2 HZ5
        obtain ⟨a0, a1, _, _⟩ := agg2 HA5
        have HZ5' : Hid (_ = _) := HZ5
        have HA5' : Hid (_ = _) := HA5
        have HY5' : Hid (_ = _) := HY5
        have HE5' : Hid (_ = _) := HE5
        have HHY : Hid (w5 = ((w3.setCell ⟨g3, k * 2, none⟩ (.int .i64 pos)).alloc (Obj.cells #[.int .i64 (ver + 1), .slice (some ⟨g3, 0, none⟩) n cap3] 26)).drew) := hw5
        have z0' := z0
        have z1' := z1
        have a0' := a0
        have a1' := a1
        rw [hw5] at z0' z1' a0' a1'
        clear hold HZ5 HA5 HY5 HE5 HB3 HY3 HE3 HA3 HR3 hsz hw5
        refine wp_region_held_drew (S := fun W => W.cell? ⟨w3.heap.size, 0, none⟩ = some (.int .i64 (ver + 1)) ∧ W.cell? ⟨w3.heap.size, 1, none⟩ = some (.slice (some ⟨g3, 0, none⟩) n cap3) ∧ W.cell? ⟨w.heap.size + 1 + 1 + 1, 0, none⟩ = some (.int .i64 yp) ∧ W.cell? ⟨w.heap.size + 1 + 1 + 1, 1, none⟩ = some (.int .i64 yl)) (by kernel_rfl) (by exact ⟨z0', z1', a0', a1'⟩) (fun hHeld => ?_)
        change wpAnyH _ _ _ _ _ 5 (Array.replicate 5 false) _ _
        refine wpAnyH_take (i := 0) (oi := _) (v := _) (by simp only [List.getElem?_toArray, List.getElem?_cons_zero]; rfl) (by kernel_rfl) (by kernel_rfl) (by kernel_rfl) (by exact fun _ _ _ h => h) (Or.inl ⟨by rfl, by intro w' hSw; (try dsimp only at hSw); first | (go_simp; done) | (go_simp; with_reducible rfl)⟩) hHeld ?_
        simp only [Act.put, List.setIfInBounds_toArray, List.set_cons_zero, List.set_cons_succ]
        refine wpAnyH_take (i := 1) (oi := _) (v := _) (by simp only [List.getElem?_toArray, List.getElem?_cons_succ, List.getElem?_cons_zero]; rfl) (by kernel_rfl) (by kernel_rfl) (by kernel_rfl) (by exact fun _ _ _ h => h) (Or.inl ⟨by rfl, by intro w' hSw; (try dsimp only at hSw); first | (go_simp; done) | (go_simp; with_reducible rfl)⟩) hHeld ?_
        simp only [Act.put, List.setIfInBounds_toArray, List.set_cons_zero, List.set_cons_succ]
        refine wpAnyH_ready (rs := [2]) (by kernel_rfl) (by simp) ?_
        refine AllReadyH.cons rfl (fun K hK => ?_) AllReadyH.nil
        rw [← HHY.out]
        obtain ⟨y0, y1, f0, f1⟩ := agg2 HY5'.out
        go_simp
        obtain ⟨w6, hw6⟩ : ∃ w6, w6 = (w5.setCell ⟨w.heap.size + 1, 0, none⟩ (.int .i64 (ver + 1))).setCell ⟨w.heap.size + 1, 1, none⟩ (.slice (some ⟨g3, 0, none⟩) n cap3) := ⟨_, rfl⟩
        rw [← hw6]
        have HZ6 : w6.heap[w3.heap.size]? = some (.cells #[.int .i64 (ver + 1), .slice (some ⟨g3, 0, none⟩) n cap3] 26 (0, 0)) := by rw [hw6]; exact (set2_other (by omega) _ _).trans HZ5'.out
        have HA6 : w6.heap[w.heap.size + 1 + 1 + 1]? = some (.cells #[.int .i64 yp, .int .i64 yl] 40 (0, 0)) := by rw [hw6]; exact (set2_other (by omega) _ _).trans HA5'.out
        have HY6 : Hid (w6.heap[w.heap.size + 1]? = some (.cells #[.int .i64 (ver + 1), .slice (some ⟨g3, 0, none⟩) n cap3] 26 (0, 0))) := by rw [hw6]; exact set2_heap HY5'.out _ _
        have HE6 : Hid (w6.heap[w.heap.size + 1 + 1]? = some (.cells #[.int .i64 0, .int .i64 0] 40 (0, 0))) := by rw [hw6]; exact (set2_other (by omega) _ _).trans HE5'.out
        have HR6 : Hid (Row w6 (w.heap.size + 4) (.slice (some ⟨g3, 0, none⟩) n cap3) (movL l k pos)) := by rw [hw6]; exact row_keep HR5.out (fun g' e => set2_other (by cases e; show g3 ≠ _; omega) _ _)
        have HB6 : Hid (Below w.heap.size w w6) := by rw [hw6]; exact set2_below HB5.out _ (by omega) _ _
        obtain ⟨q0, q1, _, _⟩ := agg2 HZ6
        obtain ⟨q2, q3, _, _⟩ := agg2 HA6
        have HZ6' : Hid (_ = _) := HZ6
        have HA6' : Hid (_ = _) := HA6
        refine hK.out _ _ ⟨q0, q1, q2, q3⟩ (fun hHeld => ?_)
        clear hK K y0 y1 f0 f1 hw6 HZ6 HA6 q0 q1 q2 q3
        refine wpAnyH_ready (rs := [3]) (by kernel_rfl) (by simp) ?_
        refine AllReadyH.cons rfl (fun K hK => ?_) AllReadyH.nil
        obtain ⟨y0, y1, f0, f1⟩ := agg2 HE6.out
        go_simp
        obtain ⟨w7, hw7⟩ : ∃ w7, w7 = (w6.setCell ⟨w.heap.size + 1 + 1, 0, none⟩ (.int .i64 yp)).setCell ⟨w.heap.size + 1 + 1, 1, none⟩ (.int .i64 yl) := ⟨_, rfl⟩
        rw [← hw7]
        have HZ7 : w7.heap[w3.heap.size]? = some (.cells #[.int .i64 (ver + 1), .slice (some ⟨g3, 0, none⟩) n cap3] 26 (0, 0)) := by rw [hw7]; exact (set2_other (by omega) _ _).trans HZ6'.out
        have HA7 : w7.heap[w.heap.size + 1 + 1 + 1]? = some (.cells #[.int .i64 yp, .int .i64 yl] 40 (0, 0)) := by rw [hw7]; exact (set2_other (by omega) _ _).trans HA6'.out
        have HY7 : Hid (w7.heap[w.heap.size + 1]? = some (.cells #[.int .i64 (ver + 1), .slice (some ⟨g3, 0, none⟩) n cap3] 26 (0, 0))) := by rw [hw7]; exact (set2_other (by omega) _ _).trans HY6.out
        have HE7 : Hid (w7.heap[w.heap.size + 1 + 1]? = some (.cells #[.int .i64 yp, .int .i64 yl] 40 (0, 0))) := by rw [hw7]; exact set2_heap HE6.out _ _
        have HR7 : Hid (Row w7 (w.heap.size + 4) (.slice (some ⟨g3, 0, none⟩) n cap3) (movL l k pos)) := by rw [hw7]; exact row_keep HR6.out (fun g' e => set2_other (by cases e; show g3 ≠ _; omega) _ _)
        have HB7 : Hid (Below w.heap.size w w7) := by rw [hw7]; exact set2_below HB6.out _ (by omega) _ _
        obtain ⟨q0, q1, _, _⟩ := agg2 HZ7
        obtain ⟨q2, q3, _, _⟩ := agg2 HA7
        refine hK.out _ _ ⟨q0, q1, q2, q3⟩ (fun hHeld => ?_)
        clear hK K y0 y1 f0 f1 hw7 HZ7 HA7 q0 q1 q2 q3
        refine wpAnyH_take (i := 4) (oi := _) (v := _) (by simp only [List.getElem?_toArray, List.getElem?_cons_succ, List.getElem?_cons_zero]; rfl) (by kernel_rfl) (by kernel_rfl) (by kernel_rfl) (by exact fun _ _ _ h => h) (Or.inl ⟨by rfl, by intro w' hSw; (try dsimp only at hSw); first | (go_simp; done) | (go_simp; with_reducible rfl)⟩) hHeld ?_
        simp only [Act.put, List.setIfInBounds_toArray, List.set_cons_zero, List.set_cons_succ]
        refine wpAnyH_done (by kernel_rfl) ?_ _
        go_wp2
        refine bodyPost_ret (res_move _ (w.heap.size + 1) _ (ver + 1) (some ⟨g3, 0, none⟩) n cap3 yp yl _ rfl rfl rfl HY7.out HE7.out) rfl ?_
        exact ⟨⟨ver + 1, .slice (some ⟨g3, 0, none⟩) n cap3, ⟨yp, yl⟩, by rw [HM.out]; rfl, fun _ => ⟨rfl, row_base HR7.out (by omega), HKE.out⟩, fun h => absurd HM.out h⟩, HB7.out⟩
    · have HM : Hid (movE l k pos = 1) := by show _ = _; unfold movE; rw [if_neg hneg, Int.toNat_natCast, List.getElem?_eq_none (by omega)]
      obtain ⟨x0, x1, x2, x3⟩ := agg2 HX0.out
      rw [hw0] at x0 x1
      have hlt' : ¬ ((k : Int) < n) := by omega
      go_enter Tryd.func8, Tryd.ntmps8
      go_wp2
      rw [← hw0]
      refine bodyPost_ret (res_move _ (w.heap.size + 1) _ 0 none 0 0 0 0 _ rfl rfl rfl HY0.out HE0.out) rfl ?_
      exact ⟨⟨0, .slice none 0 0, ⟨0, 0⟩, by rw [HM.out]; rfl, (fun h => by rw [HM.out] at h; cases h), fun _ => ⟨rfl, rfl, rfl⟩⟩, HB0.out⟩

end Go.Proofs.YtadimbpgdihjlaaDoor.Id
