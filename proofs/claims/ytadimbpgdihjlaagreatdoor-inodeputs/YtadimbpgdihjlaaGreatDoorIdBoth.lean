/-
  The extents that came in, laid as the program's and as the document's. No condition.
-/
import Derived.Test.YtadimbpgdihjlaaGreatDoorIdRight
import Derived.Test.YtadimbpgdihjlaaGreatDoorRgL
namespace Go.Proofs.YtadimbpgdihjlaaGreatDoor.Id
open Go.ChangeShapes Go.WideShapes Go.ChangeAt Go.RowKit Go.Proofs.Fa

theorem info_extR : (Tryz.prog.info? 56).map (fun i => (i.zero, i.size, i.bytes)) = some (some (.agg #[.int .i64 0, .int .i64 0]), 2, 16) := by kernel_rfl
theorem wpH_append {P : Program} {o : Oper} {a : Act} {w w' : World} {tm : Nat → Option Bool} {K : Act → World → Prop} {Q : Exit → Act → World → Prop} {s x : Operand} {t : TypeId} {v v2 v' : Value} (hwant : Region.wanted o tm = true)
    (ho : o.op = .call { callee := .builtin .append, args := #[s, x], argTypes := #[t, t] }) (hs : a.eval s = v) (hx : a.eval x = v2) (hr : (Builtin.append_ #[t, t] o.type #[v, v2]).run P w = .ok v' w') (hK : K (a.put o.dst v') w') :
    if Region.wanted o tm = true then Oper.wp P o a w K Q else K (a.put o.dst undef) w := by
  rw [if_pos hwant]
  unfold Oper.wp execOp
  simp only [ho, resolve, invoke, builtin, Sem.run_bind, Sem.run_pure, Result.andThen_ok, List.map_toArray, List.map_cons, List.map_nil, hs, hx, hr]
  exact hK
/-- The first extents of those that came in. -/
def lst (L : Nat → Ext) (k : Nat) : List Ext := (List.range k).map L
theorem lst_succ (L : Nat → Ext) (k : Nat) : lst L (k + 1) = lst L k ++ [L k] := by unfold lst; rw [List.range_succ]; simp
theorem lst_length (L : Nat → Ext) (k : Nat) : (lst L k).length = k := by simp [lst]

/-- The four inodes of both: the two under way, the two results. -/
structure F4 (w wr : World) (ver : Int) (av bv : Value) : Prop where
  a : wr.heap[w.heap.size + 1 + 1]? = some (.cells #[.int .i64 ver, av] 26 (0, 0))
  b : wr.heap[w.heap.size + 1 + 1 + 1]? = some (.cells #[.int .i64 ver, bv] 29 (0, 0))
  ra : wr.heap[w.heap.size]? = some (.cells #[.int .i64 0, .slice none 0 0] 26 (0, 0))
  rb : wr.heap[w.heap.size + 1]? = some (.cells #[.int .i64 0, .slice none 0 0] 29 (0, 0))
  below : Below w.heap.size w wr
theorem F4.alloc {w wr : World} {ver : Int} {av bv : Value} (h : F4 w wr ver av bv) (o : Obj) : F4 w (wr.alloc o) ver av bv :=
  ⟨(Below.heap_alloc _ _ _ (lt_of_heap h.a)).trans h.a, (Below.heap_alloc _ _ _ (lt_of_heap h.b)).trans h.b, (Below.heap_alloc _ _ _ (lt_of_heap h.ra)).trans h.ra, (Below.heap_alloc _ _ _ (lt_of_heap h.rb)).trans h.rb, h.below.alloc h.below.size o⟩
theorem F4.grown {w wr w5 : World} {ver : Int} {av bv : Value} {row : Option Nat} (h : F4 w wr ver av bv) (hg : wr.grownBy w5 row) (hr : ∀ g, row = some g → w.heap.size + 4 ≤ g) : F4 w w5 ver av bv :=
  ⟨(hg.block _ (lt_of_heap h.a) (fun e => by have := hr _ e.symm; omega)).trans h.a, (hg.block _ (lt_of_heap h.b) (fun e => by have := hr _ e.symm; omega)).trans h.b, (hg.block _ (lt_of_heap h.ra) (fun e => by have := hr _ e.symm; omega)).trans h.ra, (hg.block _ (lt_of_heap h.rb) (fun e => by have := hr _ e.symm; omega)).trans h.rb,
    h.below.grown hg h.below.size (fun k e => by have := hr k e; omega)⟩
theorem F4.setA {w wr : World} {ver : Int} {av bv : Value} (h : F4 w wr ver av bv) (v : Value) : F4 w (wr.setCell ⟨w.heap.size + 1 + 1, 1, none⟩ v) ver v bv :=
  ⟨heap_setCell_same _ _ 1 _ _ _ h.a, (heap_setCell_other _ ⟨w.heap.size + 1 + 1, 1, none⟩ _ _ (by show w.heap.size + 1 + 1 + 1 ≠ w.heap.size + 1 + 1; omega)).trans h.b, (heap_setCell_other _ ⟨w.heap.size + 1 + 1, 1, none⟩ _ _ (by show w.heap.size ≠ w.heap.size + 1 + 1; omega)).trans h.ra, (heap_setCell_other _ ⟨w.heap.size + 1 + 1, 1, none⟩ _ _ (by show w.heap.size + 1 ≠ w.heap.size + 1 + 1; omega)).trans h.rb, h.below.setCell (p := ⟨w.heap.size + 1 + 1, 1, none⟩) (by show w.heap.size ≤ w.heap.size + 1 + 1; omega) _⟩
theorem F4.setB {w wr : World} {ver : Int} {av bv : Value} (h : F4 w wr ver av bv) (v : Value) : F4 w (wr.setCell ⟨w.heap.size + 1 + 1 + 1, 1, none⟩ v) ver av v :=
  ⟨(heap_setCell_other _ ⟨w.heap.size + 1 + 1 + 1, 1, none⟩ _ _ (by show w.heap.size + 1 + 1 ≠ w.heap.size + 1 + 1 + 1; omega)).trans h.a, heap_setCell_same _ _ 1 _ _ _ h.b, (heap_setCell_other _ ⟨w.heap.size + 1 + 1 + 1, 1, none⟩ _ _ (by show w.heap.size ≠ w.heap.size + 1 + 1 + 1; omega)).trans h.ra, (heap_setCell_other _ ⟨w.heap.size + 1 + 1 + 1, 1, none⟩ _ _ (by show w.heap.size + 1 ≠ w.heap.size + 1 + 1 + 1; omega)).trans h.rb, h.below.setCell (p := ⟨w.heap.size + 1 + 1 + 1, 1, none⟩) (by show w.heap.size ≤ w.heap.size + 1 + 1 + 1; omega) _⟩
theorem row_setFar {w wr : World} {e n k : Nat} {v u : Value} {xs : List Value} (h : wr.ownsRow (w.heap.size + 4) e 2 v n xs) (hk : k < w.heap.size + 4) : (wr.setCell ⟨k, 1, none⟩ u).ownsRow (w.heap.size + 4) e 2 v n xs :=
  row_keep h (fun g hg => heap_setCell_other _ ⟨k, 1, none⟩ g _ (by have := row_ge h g hg; show g ≠ k; omega))
/-- Rows of two types are apart. -/
theorem row_grown {wr w5 : World} {base e e' n n' : Nat} {v v' : Value} {xs xs' : List Value} (hne : e ≠ e') (h : wr.ownsRow base e 2 v n xs) (h' : wr.ownsRow base e' 2 v' n' xs') (hg : wr.grownBy w5 v'.ownBlock) : w5.ownsRow base e 2 v n xs := by
  refine row_keep h (fun g hgb => hg.block g (row_lt h g hgb) (fun e2 => ?_))
  rcases h.2 with ⟨rfl, _⟩ | ⟨g1, cap1, cur1, rfl, _, hg1, _⟩
  · cases hgb
  · cases hgb
    rcases h'.2 with ⟨rfl, _⟩ | ⟨g2, cap2, cur2, rfl, _, hg2, _⟩
    · cases e2
    · have : g1 = g2 := by simpa [Value.ownBlock] using e2
      subst this
      rw [hg1] at hg2
      injection hg2 with hh
      injection hh with _ h3
      exact hne h3
theorem lit_grown {wr w5 : World} {base e e' n' b : Nat} {v' : Value} {c : Array Value} {xs' : List Value} (hne : e ≠ e') (h : wr.heap[b]? = some (.cells c e (0, 0))) (h' : wr.ownsRow base e' 2 v' n' xs') (hg : wr.grownBy w5 v'.ownBlock) : w5.heap[b]? = some (.cells c e (0, 0)) := by
  refine (hg.block b (lt_of_heap h) (fun e2 => ?_)).trans h
  rcases h'.2 with ⟨rfl, _⟩ | ⟨g2, cap2, cur2, rfl, _, hg2, _⟩
  · cases e2
  · have : b = g2 := by simpa [Value.ownBlock] using e2
    subst this
    rw [h] at hg2
    injection hg2 with hh
    injection hh with _ h3
    exact hne h3
theorem cells_lit {W : World} {b : Nat} {v0 v1 : Value} {t : TypeId} (h : W.heap[b]? = some (.cells #[v0, v1] t (0, 0))) (j : Nat) (u : Value) (hj : [v0, v1][j]? = some u) : W.cell? ((⟨b, 0, none⟩ : Addr).add j) = some u := by
  have e : (⟨b, 0, none⟩ : Addr).add j = ⟨b, j, none⟩ := by simp [Addr.add_lit]
  rw [e]
  exact cell_of_heap h j u (by simpa using hj)

/-- What the round's statement reads, as long as it isn't stored into. -/
def SLd (A Bb : Nat) (p0 p1 : Addr) (x0 x1 av bv : Value) (L : Array Bool) (W : World) : Prop :=
  (W.cell? p0 = some x0 ∧ W.cell? p1 = some x1) ∧ (L.getD 17 true = false → W.cell? ⟨A, 1, none⟩ = some av) ∧ (L.getD 19 true = false → W.cell? ⟨Bb, 1, none⟩ = some bv)
theorem sl_ind {A Bb : Nat} {p0 p1 : Addr} {x0 x1 av bv : Value} {i : Nat} (h17 : i ≠ 17) (h19 : i ≠ 19) : ∀ (L : Array Bool) (W : World), SLd A Bb p0 p1 x0 x1 av bv (L.setIfInBounds i true) W → SLd A Bb p0 p1 x0 x1 av bv L W := fun L W h =>
  ⟨h.1, fun e => h.2.1 (by rw [getD_set_ne true h17]; exact e), fun e => h.2.2 (by rw [getD_set_ne true h19]; exact e)⟩
theorem sl_put {A Bb : Nat} {p0 p1 : Addr} {x0 x1 av bv : Value} {i : Nat} (h17 : i ≠ 17) (h19 : i ≠ 19) {L : Array Bool} {W : World} (h : SLd A Bb p0 p1 x0 x1 av bv L W) : SLd A Bb p0 p1 x0 x1 av bv (L.setIfInBounds i true) W :=
  ⟨h.1, fun e => h.2.1 (by rw [getD_set_ne true h17] at e; exact e), fun e => h.2.2 (by rw [getD_set_ne true h19] at e; exact e)⟩

variable {w : World} {B : Nat}
set_option maxRecDepth 100000
set_option maxHeartbeats 1000000

theorem res_both (tm : Array Value) (b : Nat) (W : World) (ver : Int) (aa ba : Option Addr) (n m c d : Nat) (h4 : tm[4]? = some (.pointer (some ⟨b, 0, none⟩))) (h5 : tm[5]? = some (.pointer (some ⟨b + 1, 0, none⟩))) (h : W.heap[b]? = some (.cells #[.int .i64 ver, .slice aa n c] 26 (0, 0))) (h' : W.heap[b + 1]? = some (.cells #[.int .i64 ver, .slice ba m d] 29 (0, 0))) :
    (results Tryz.f6 tm).run Tryz.prog W = .ok (.tuple #[ino ver (.slice aa n c), ino ver (.slice ba m d)]) W := by
  obtain ⟨c0, c1, _⟩ := agg2 h
  obtain ⟨d0, d1, _⟩ := agg2 h'
  clear h h'
  simp [results, Tryz.f6, go_sem, h4, h5, c0, c1, d0, d1, ino]

theorem both_any (ver : Int) (a : Option Addr) (len cap : Nat) (L : Nat → Ext) (hI : ItemsAt w a len L) :
    Calls Tryz.prog 6 #[.int .i64 ver, .slice a len cap] w fun r w' => (∃ av bv, r = .returned (.tuple #[ino ver av, ino ver bv]) ∧ Row w' w.heap.size av (lst L (min len 40)) ∧ RowR w' w.heap.size bv (lst L (min len 40))) ∧ Below w.heap.size w w' := by
  obtain ⟨i0, hi, hz0, hz1, hz2⟩ := info_parts info_ext
  obtain ⟨j0, hj, hy0, hy1, hy2⟩ := info_parts info_extR
  have HI0 : Hid (ItemsAt w a len L) := hI
  clear hI
  obtain ⟨w0, hw0⟩ : ∃ w0, w0 = (((w.alloc (Obj.cells #[.int .i64 0, .slice none 0 0] 26)).alloc (Obj.cells #[.int .i64 0, .slice none 0 0] 29)).alloc (Obj.cells #[.int .i64 ver, .slice none 0 0] 26)).alloc (Obj.cells #[.int .i64 ver, .slice none 0 0] 29) := ⟨_, rfl⟩
  have HB0 : Hid (F4 w w0 ver (.slice none 0 0) (.slice none 0 0)) := by
    rw [hw0]
    have s1 := heap_alloc_new (w.alloc (Obj.cells #[.int .i64 0, .slice none 0 0] 26)) (Obj.cells #[.int .i64 0, .slice none 0 0] 29)
    have s2 := heap_alloc_new ((w.alloc (Obj.cells #[.int .i64 0, .slice none 0 0] 26)).alloc (Obj.cells #[.int .i64 0, .slice none 0 0] 29)) (Obj.cells #[.int .i64 ver, .slice none 0 0] 26)
    have s3 := heap_alloc_new (((w.alloc (Obj.cells #[.int .i64 0, .slice none 0 0] 26)).alloc (Obj.cells #[.int .i64 0, .slice none 0 0] 29)).alloc (Obj.cells #[.int .i64 ver, .slice none 0 0] 26)) (Obj.cells #[.int .i64 ver, .slice none 0 0] 29)
    simp only [World.size_alloc] at s1 s2 s3
    refine ⟨(Below.heap_alloc _ _ _ (by simp)).trans s2, s3, ?_, ?_, ?_⟩
    · exact (((Below.heap_alloc _ _ _ (by simp; omega)).trans (Below.heap_alloc _ _ _ (by simp; omega))).trans (Below.heap_alloc _ _ _ (by simp))).trans (heap_alloc_new w _)
    · exact ((Below.heap_alloc _ _ _ (by simp)).trans (Below.heap_alloc _ _ _ (by simp))).trans s1
    · exact ((((Below.refl _ _).alloc (Nat.le_refl _) _).alloc (by simp) _).alloc (by simp; omega) _).alloc (by simp; omega) _
  go_enter Tryz.func6, Tryz.ntmps6
  go_wp2_with fail
  rw [← hw0]
  clear hw0
  go_loopw [8] (fun i wr => ∃ (k : Nat) (aa ba : Option Addr) (ac bc : Nat), (k ≤ len ∧ k ≤ 40) ∧ i = .int .i64 k ∧ F4 w wr ver (.slice aa k ac) (.slice ba k bc) ∧ Row wr (w.heap.size + 4) (.slice aa k ac) (lst L k) ∧ RowR wr (w.heap.size + 4) (.slice ba k bc) (lst L k)) (fun i _ => 40 - (intOf i).toNat)
  case atStart => exact ⟨0, none, none, 0, 0, ⟨Nat.zero_le _, by omega⟩, rfl, HB0.out, World.ownsRow_nil _ _ _ _, World.ownsRow_nil _ _ _ _⟩
  case round =>
    obtain ⟨k, aa, ba, ac, bc, ⟨hk1, hk2⟩, rfl, hBI, hra, hrb⟩ := hrel
    have HBI : Hid (F4 w wr ver (.slice aa k ac) (.slice ba k bc)) := hBI
    have HRA : Hid (wr.ownsRow (w.heap.size + 4) 51 2 (.slice aa k ac) k (ecells (lst L k))) := by have h := hra; unfold Row at h; rw [lst_length] at h; exact h
    have HRB : Hid (wr.ownsRow (w.heap.size + 4) 56 2 (.slice ba k bc) k (ecells (lst L k))) := by have h := hrb; unfold RowR at h; rw [lst_length] at h; exact h
    clear HB0 hBI hra hrb
    by_cases hlt : k < len ∧ k < 40
    · obtain ⟨hl1, hl2⟩ := hlt
      have hl1' : (k : Int) < (len : Int) := by omega
      have hl2' : (k : Int) < 40 := by omega
      have hIk := HI0.out.below HBI.out.below (Nat.le_refl _)
      rcases hIk.1 with h0 | ⟨ib, off, rfl, _, hc⟩
      · omega
      · obtain ⟨i0', i1'⟩ := hc k hl1
        clear hIk hc
        obtain ⟨it, hit⟩ : ∃ it, L k = it := ⟨_, rfl⟩
        have HLk : Hid (L k = it) := hit
        rw [hit] at i0' i1'
        clear hit
        obtain ⟨ip, il⟩ := it
        dsimp only at i0' i1'
        have HIT : Hid (∀ W, Below w.heap.size w W → W.cell? ⟨ib, off + k * 2, none⟩ = some (.int .i64 ip) ∧ W.cell? ⟨ib, off + k * 2 + 1, none⟩ = some (.int .i64 il)) := by
          intro W hW
          have hIW := HI0.out.below hW (Nat.le_refl _)
          rcases hIW.1 with h0 | ⟨ib', off', e, _, hc⟩
          · omega
          · cases e
            have := hc k hl1
            rw [HLk.out] at this
            exact this
        have HSL : Hid (∀ W Lx, F4 w W ver (.slice aa k ac) (.slice ba k bc) → SLd (w.heap.size + 1 + 1) (w.heap.size + 1 + 1 + 1) ⟨ib, off + k * 2, none⟩ ⟨ib, off + k * 2 + 1, none⟩ (.int .i64 ip) (.int .i64 il) (.slice aa k ac) (.slice ba k bc) Lx W) := fun W Lx h => ⟨HIT.out W h.below, fun _ => cell_of_heap h.a 1 _ rfl, fun _ => cell_of_heap h.b 1 _ rfl⟩
        have hneT : 51 ≠ 56 := by decide
        have hneT' : 56 ≠ 51 := by decide
        clear i0' i1'
        go_wp2
        have HROW : Hid (∀ (W : World) v, W.ownsRow (w.heap.size + 4) 51 2 v (k + 1) (ecells (lst L k) ++ [.int .i64 ip, .int .i64 il]) → Row W (w.heap.size + 4) v (lst L (k + 1))) := fun W v h => by unfold Row; rw [lst_length, lst_succ, ecells_append, HLk.out]; exact h
        have HROWR : Hid (∀ (W : World) v, W.ownsRow (w.heap.size + 4) 56 2 v (k + 1) (ecells (lst L k) ++ [.int .i64 ip, .int .i64 il]) → RowR W (w.heap.size + 4) v (lst L (k + 1))) := fun W v h => by unfold RowR; rw [lst_length, lst_succ, ecells_append, HLk.out]; exact h
        refine Rg.wp_region_L (SL := SLd (w.heap.size + 1 + 1) (w.heap.size + 1 + 1 + 1) ⟨ib, off + k * 2, none⟩ ⟨ib, off + k * 2 + 1, none⟩ (.int .i64 ip) (.int .i64 il) (.slice aa k ac) (.slice ba k bc)) (by kernel_rfl) (HSL.out _ _ ⟨HBI.out.a, HBI.out.b, HBI.out.ra, HBI.out.rb, HBI.out.below.drew⟩) (fun hHeld => ?_)
        change Rg.wpAnyL _ _ _ _ _ 20 (Array.replicate 20 false) _ _
        refine Rg.wpAnyL_take (i := 0) (oi := _) (v := _) (fun _ => True) (by simp only [List.getElem?_toArray, List.getElem?_cons_zero]; rfl) (by kernel_rfl) (by kernel_rfl) (by kernel_rfl) (by kernel_rfl) (by exact fun _ _ _ h => h) (sl_ind (by decide) (by decide)) (fun _ _ _ _ => trivial) (Or.inl ⟨by rfl, by intro w' hSw; (try dsimp only at hSw); first | (go_simp; done) | (go_simp; with_reducible rfl)⟩) hHeld (sl_put (by decide) (by decide) hHeld) (fun hHeld => ?_)
        simp only [Act.put, List.setIfInBounds_toArray, List.set_cons_zero, List.set_cons_succ]
        refine Rg.wpAnyL_take (i := 1) (oi := _) (v := _) (fun W => W.cell? ⟨w.heap.size + 1 + 1, 1, none⟩ = some (.slice aa k ac)) (by simp only [List.getElem?_toArray, List.getElem?_cons_succ, List.getElem?_cons_zero]; rfl) (by kernel_rfl) (by kernel_rfl) (by kernel_rfl) (by kernel_rfl) (by exact fun _ _ _ h => h) (sl_ind (by decide) (by decide)) (fun _ _ hL h => h.2.1 (hL 17 _ (by simp only [List.getElem?_toArray, List.getElem?_cons_succ, List.getElem?_cons_zero]; rfl) ⟨{ on := 1, ground := .phase }, by simp, by rfl, rfl⟩)) (Or.inl ⟨by rfl, by intro w' hSw; (try dsimp only at hSw); first | (go_simp; done) | (go_simp; with_reducible rfl)⟩) hHeld (sl_put (by decide) (by decide) hHeld) (fun hHeld => ?_)
        simp only [Act.put, List.setIfInBounds_toArray, List.set_cons_zero, List.set_cons_succ]
        refine Rg.wpAnyL_take (i := 2) (oi := _) (v := _) (fun _ => True) (by simp only [List.getElem?_toArray, List.getElem?_cons_succ, List.getElem?_cons_zero]; rfl) (by kernel_rfl) (by kernel_rfl) (by kernel_rfl) (by kernel_rfl) (by exact fun _ _ _ h => h) (sl_ind (by decide) (by decide)) (fun _ _ _ _ => trivial) (Or.inl ⟨by rfl, by intro w' hSw; (try dsimp only at hSw); first | (go_simp; done) | (go_simp; with_reducible rfl)⟩) hHeld (sl_put (by decide) (by decide) hHeld) (fun hHeld => ?_)
        simp only [Act.put, List.setIfInBounds_toArray, List.set_cons_zero, List.set_cons_succ]
        refine Rg.wpAnyL_take (i := 3) (oi := _) (v := _) (fun _ => True) (by simp only [List.getElem?_toArray, List.getElem?_cons_succ, List.getElem?_cons_zero]; rfl) (by kernel_rfl) (by kernel_rfl) (by kernel_rfl) (by kernel_rfl) (by exact fun _ _ _ h => h) (sl_ind (by decide) (by decide)) (fun _ _ _ _ => trivial) (Or.inl ⟨by rfl, by intro w' hSw; (try dsimp only at hSw); first | (go_simp; done) | (go_simp; with_reducible rfl)⟩) hHeld (sl_put (by decide) (by decide) hHeld) (fun hHeld => ?_)
        simp only [Act.put, List.setIfInBounds_toArray, List.set_cons_zero, List.set_cons_succ]
        refine Rg.wpAnyL_take (i := 4) (oi := _) (v := _) (fun _ => True) (by simp only [List.getElem?_toArray, List.getElem?_cons_succ, List.getElem?_cons_zero]; rfl) (by kernel_rfl) (by kernel_rfl) (by kernel_rfl) (by kernel_rfl) (by exact fun _ _ _ h => h) (sl_ind (by decide) (by decide)) (fun _ _ _ _ => trivial) (Or.inl ⟨by rfl, by intro w' hSw; (try dsimp only at hSw); first | (go_simp; done) | (go_simp; with_reducible rfl)⟩) hHeld (sl_put (by decide) (by decide) hHeld) (fun hHeld => ?_)
        simp only [Act.put, List.setIfInBounds_toArray, List.set_cons_zero, List.set_cons_succ]
        refine Rg.wpAnyL_take (i := 5) (oi := _) (v := _) (fun W => W.cell? ⟨ib, off + k * 2, none⟩ = some (.int .i64 ip) ∧ W.cell? ⟨ib, off + k * 2 + 1, none⟩ = some (.int .i64 il)) (by simp only [List.getElem?_toArray, List.getElem?_cons_succ, List.getElem?_cons_zero]; rfl) (by kernel_rfl) (by kernel_rfl) (by kernel_rfl) (by kernel_rfl) (by exact fun _ _ _ h => h) (sl_ind (by decide) (by decide)) (fun _ _ _ h => h.1) (Or.inl ⟨by rfl, by intro w' hSw; (try dsimp only at hSw); first | (go_simp; done) | (go_simp; with_reducible rfl)⟩) hHeld (sl_put (by decide) (by decide) hHeld) (fun hHeld => ?_)
        simp only [Act.put, List.setIfInBounds_toArray, List.set_cons_zero, List.set_cons_succ]
        refine Rg.wpAnyL_take (i := 8) (oi := _) (v := _) (fun _ => True) (by simp only [List.getElem?_toArray, List.getElem?_cons_succ, List.getElem?_cons_zero]; rfl) (by kernel_rfl) (by kernel_rfl) (by kernel_rfl) (by kernel_rfl) (by exact fun _ _ _ h => h) (sl_ind (by decide) (by decide)) (fun _ _ _ _ => trivial) (Or.inl ⟨by rfl, by intro w' hSw; (try dsimp only at hSw); first | (go_simp; done) | (go_simp; with_reducible rfl)⟩) hHeld (sl_put (by decide) (by decide) hHeld) (fun hHeld => ?_)
        simp only [Act.put, List.setIfInBounds_toArray, List.set_cons_zero, List.set_cons_succ]
        refine Rg.wpAnyL_take (i := 9) (oi := _) (v := _) (fun W => W.cell? ⟨w.heap.size + 1 + 1 + 1, 1, none⟩ = some (.slice ba k bc)) (by simp only [List.getElem?_toArray, List.getElem?_cons_succ, List.getElem?_cons_zero]; rfl) (by kernel_rfl) (by kernel_rfl) (by kernel_rfl) (by kernel_rfl) (by exact fun _ _ _ h => h) (sl_ind (by decide) (by decide)) (fun _ _ hL h => h.2.2 (hL 19 _ (by simp only [List.getElem?_toArray, List.getElem?_cons_succ, List.getElem?_cons_zero]; rfl) ⟨{ on := 9, ground := .phase }, by simp, by rfl, rfl⟩)) (Or.inl ⟨by rfl, by intro w' hSw; (try dsimp only at hSw); first | (go_simp; done) | (go_simp; with_reducible rfl)⟩) hHeld (sl_put (by decide) (by decide) hHeld) (fun hHeld => ?_)
        simp only [Act.put, List.setIfInBounds_toArray, List.set_cons_zero, List.set_cons_succ]
        refine Rg.wpAnyL_take (i := 10) (oi := _) (v := _) (fun _ => True) (by simp only [List.getElem?_toArray, List.getElem?_cons_succ, List.getElem?_cons_zero]; rfl) (by kernel_rfl) (by kernel_rfl) (by kernel_rfl) (by kernel_rfl) (by exact fun _ _ _ h => h) (sl_ind (by decide) (by decide)) (fun _ _ _ _ => trivial) (Or.inl ⟨by rfl, by intro w' hSw; (try dsimp only at hSw); first | (go_simp; done) | (go_simp; with_reducible rfl)⟩) hHeld (sl_put (by decide) (by decide) hHeld) (fun hHeld => ?_)
        simp only [Act.put, List.setIfInBounds_toArray, List.set_cons_zero, List.set_cons_succ]
        refine Rg.wpAnyL_take (i := 11) (oi := _) (v := _) (fun _ => True) (by simp only [List.getElem?_toArray, List.getElem?_cons_succ, List.getElem?_cons_zero]; rfl) (by kernel_rfl) (by kernel_rfl) (by kernel_rfl) (by kernel_rfl) (by exact fun _ _ _ h => h) (sl_ind (by decide) (by decide)) (fun _ _ _ _ => trivial) (Or.inl ⟨by rfl, by intro w' hSw; (try dsimp only at hSw); first | (go_simp; done) | (go_simp; with_reducible rfl)⟩) hHeld (sl_put (by decide) (by decide) hHeld) (fun hHeld => ?_)
        simp only [Act.put, List.setIfInBounds_toArray, List.set_cons_zero, List.set_cons_succ]
        refine Rg.wpAnyL_take (i := 12) (oi := _) (v := _) (fun _ => True) (by simp only [List.getElem?_toArray, List.getElem?_cons_succ, List.getElem?_cons_zero]; rfl) (by kernel_rfl) (by kernel_rfl) (by kernel_rfl) (by kernel_rfl) (by exact fun _ _ _ h => h) (sl_ind (by decide) (by decide)) (fun _ _ _ _ => trivial) (Or.inl ⟨by rfl, by intro w' hSw; (try dsimp only at hSw); first | (go_simp; done) | (go_simp; with_reducible rfl)⟩) hHeld (sl_put (by decide) (by decide) hHeld) (fun hHeld => ?_)
        simp only [Act.put, List.setIfInBounds_toArray, List.set_cons_zero, List.set_cons_succ]
        refine Rg.wpAnyL_take (i := 13) (oi := _) (v := _) (fun W => W.cell? ⟨ib, off + k * 2, none⟩ = some (.int .i64 ip) ∧ W.cell? ⟨ib, off + k * 2 + 1, none⟩ = some (.int .i64 il)) (by simp only [List.getElem?_toArray, List.getElem?_cons_succ, List.getElem?_cons_zero]; rfl) (by kernel_rfl) (by kernel_rfl) (by kernel_rfl) (by kernel_rfl) (by exact fun _ _ _ h => h) (sl_ind (by decide) (by decide)) (fun _ _ _ h => h.1) (Or.inl ⟨by rfl, by intro w' hSw; (try dsimp only at hSw); first | (go_simp; done) | (go_simp; with_reducible rfl)⟩) hHeld (sl_put (by decide) (by decide) hHeld) (fun hHeld => ?_)
        simp only [Act.put, List.setIfInBounds_toArray, List.set_cons_zero, List.set_cons_succ]
        refine Rg.wpAnyL_ready (rs := [6, 14]) (by kernel_rfl) (by simp) ?_
        refine (Rg.AllReadyL.cons (o := _) (by simp only [List.getElem?_toArray, List.getElem?_cons_succ, List.getElem?_cons_zero]; rfl) (fun K hK => ?_) (Rg.AllReadyL.cons (o := _) (by simp only [List.getElem?_toArray, List.getElem?_cons_succ, List.getElem?_cons_zero]; rfl) (fun K hK => ?_) Rg.AllReadyL.nil))
        · skip
          go_simp
          go_wp2_with fail
          obtain ⟨W1, hW1⟩ : ∃ W1, W1 = (wr.alloc (Obj.cells #[.int .i64 ip, .int .i64 il] 51)).drew := ⟨_, rfl⟩
          have FW1 : Hid (F4 w W1 ver (.slice aa k ac) (.slice ba k bc)) := by rw [hW1]; have hh := HBI.out.alloc (Obj.cells #[.int .i64 ip, .int .i64 il] 51); exact ⟨hh.a, hh.b, hh.ra, hh.rb, hh.below.drew⟩
          have AW1 : Hid (W1.ownsRow (w.heap.size + 4) 51 2 (.slice aa k ac) k (ecells (lst L k))) := by rw [hW1]; exact World.ownsRow.drew (World.ownsRow.alloc HRA.out _)
          have BW1 : Hid (W1.ownsRow (w.heap.size + 4) 56 2 (.slice ba k bc) k (ecells (lst L k))) := by rw [hW1]; exact World.ownsRow.drew (World.ownsRow.alloc HRB.out _)
          have hLW1 : W1.heap[wr.heap.size]? = some (.cells #[.int .i64 ip, .int .i64 il] 51 (0, 0)) := by rw [hW1]; exact heap_alloc_new _ _
          obtain ⟨lW1, hlW1⟩ : ∃ lW1, lW1 = wr.heap.size := ⟨_, rfl⟩
          rw [← hlW1] at hLW1
          have LW1 : Hid (W1.heap[lW1]? = some (.cells #[.int .i64 ip, .int .i64 il] 51 (0, 0))) := hLW1
          rw [← hW1, ← hlW1]
          clear hW1 hLW1 hlW1
          refine hK.out _ _ (HSL.out _ _ FW1.out) (fun hHeld => ?_)
          clear hK K
          try simp only [Act.put, List.setIfInBounds_toArray, List.set_cons_zero, List.set_cons_succ]
          refine Rg.wpAnyL_ready (rs := [7, 14]) (by kernel_rfl) (by simp) ?_
          refine (Rg.AllReadyL.cons (o := _) (by simp only [List.getElem?_toArray, List.getElem?_cons_succ, List.getElem?_cons_zero]; rfl) (fun K hK => ?_) (Rg.AllReadyL.cons (o := _) (by simp only [List.getElem?_toArray, List.getElem?_cons_succ, List.getElem?_cons_zero]; rfl) (fun K hK => ?_) Rg.AllReadyL.nil))
          · skip
            obtain ⟨vW2, W2, hrW2, hoW2, hgW2, hnW2⟩ := run_append_near (P := Tryz.prog) W1 (w.heap.size + 4) 24 24 51 i0 _ 2 16 Tryz.underlying24 hi hz0 hz1 hz2 rfl (by decide) (.slice aa k ac) k (ecells (lst L k)) AW1.out ⟨lW1, 0, none⟩ 1 1 [.int .i64 ip, .int .i64 il] rfl (cells_lit LW1.out) (by intro u hu; simp only [List.mem_cons, List.not_mem_nil, or_false] at hu; rcases hu with rfl | rfl <;> rfl) (by unfold maxLen; omega) (by omega) (by have := lt_of_heap FW1.out.b; omega)
            refine wpH_append (by rfl) rfl rfl rfl hrW2 ?_
            have FW2 : Hid (F4 w W2 ver (.slice aa k ac) (.slice ba k bc)) := FW1.out.grown hgW2 (fun g e => row_ge AW1.out g e)
            obtain ⟨aW2, cW2, hvW2, _⟩ := row_slice hoW2
            subst hvW2
            have AW2 : Hid (W2.ownsRow (w.heap.size + 4) 51 2 (.slice aW2 (k + 1) cW2) (k + 1) (ecells (lst L k) ++ [.int .i64 ip, .int .i64 il])) := hoW2
            have BW2 : Hid (W2.ownsRow (w.heap.size + 4) 56 2 (.slice ba k bc) k (ecells (lst L k))) := row_grown hneT' BW1.out AW1.out hgW2
            refine hK.out _ _ (HSL.out _ _ FW2.out) (fun hHeld => ?_)
            clear hK K hrW2 hoW2 hgW2 hnW2
            simp only [Act.put, List.setIfInBounds_toArray, List.set_cons_zero, List.set_cons_succ]
            refine Rg.wpAnyL_take (i := 16) (oi := _) (v := _) (fun _ => True) (by simp only [List.getElem?_toArray, List.getElem?_cons_succ, List.getElem?_cons_zero]; rfl) (by kernel_rfl) (by kernel_rfl) (by kernel_rfl) (by kernel_rfl) (by exact fun _ _ _ h => h) (sl_ind (by decide) (by decide)) (fun _ _ _ _ => trivial) (Or.inl ⟨by rfl, by intro w' hSw; (try dsimp only at hSw); first | (go_simp; done) | (go_simp; with_reducible rfl)⟩) hHeld (sl_put (by decide) (by decide) hHeld) (fun hHeld => ?_)
            simp only [Act.put, List.setIfInBounds_toArray, List.set_cons_zero, List.set_cons_succ]
            refine Rg.wpAnyL_ready (rs := [14]) (by kernel_rfl) (by simp) ?_
            refine (Rg.AllReadyL.cons (o := _) (by simp only [List.getElem?_toArray, List.getElem?_cons_succ, List.getElem?_cons_zero]; rfl) (fun K hK => ?_) Rg.AllReadyL.nil)
            go_simp
            go_wp2_with fail
            obtain ⟨W3, hW3⟩ : ∃ W3, W3 = (W2.alloc (Obj.cells #[.int .i64 ip, .int .i64 il] 56)) := ⟨_, rfl⟩
            have FW3 : Hid (F4 w W3 ver (.slice aa k ac) (.slice ba k bc)) := by rw [hW3]; have hh := FW2.out.alloc (Obj.cells #[.int .i64 ip, .int .i64 il] 56); exact ⟨hh.a, hh.b, hh.ra, hh.rb, hh.below⟩
            have AW3 : Hid (W3.ownsRow (w.heap.size + 4) 51 2 (.slice aW2 (k + 1) cW2) (k + 1) (ecells (lst L k) ++ [.int .i64 ip, .int .i64 il])) := by rw [hW3]; exact (World.ownsRow.alloc AW2.out _)
            have BW3 : Hid (W3.ownsRow (w.heap.size + 4) 56 2 (.slice ba k bc) k (ecells (lst L k))) := by rw [hW3]; exact (World.ownsRow.alloc BW2.out _)
            have hLW3 : W3.heap[W2.heap.size]? = some (.cells #[.int .i64 ip, .int .i64 il] 56 (0, 0)) := by rw [hW3]; exact heap_alloc_new _ _
            obtain ⟨lW3, hlW3⟩ : ∃ lW3, lW3 = W2.heap.size := ⟨_, rfl⟩
            rw [← hlW3] at hLW3
            have LW3 : Hid (W3.heap[lW3]? = some (.cells #[.int .i64 ip, .int .i64 il] 56 (0, 0))) := hLW3
            rw [← hW3, ← hlW3]
            clear hW3 hLW3 hlW3
            refine hK.out _ _ (HSL.out _ _ FW3.out) (fun hHeld => ?_)
            clear hK K
            try simp only [Act.put, List.setIfInBounds_toArray, List.set_cons_zero, List.set_cons_succ]
            refine Rg.wpAnyL_ready (rs := [15]) (by kernel_rfl) (by simp) ?_
            refine (Rg.AllReadyL.cons (o := _) (by simp only [List.getElem?_toArray, List.getElem?_cons_succ, List.getElem?_cons_zero]; rfl) (fun K hK => ?_) Rg.AllReadyL.nil)
            obtain ⟨vW4, W4, hrW4, hoW4, hgW4, hnW4⟩ := run_append_near (P := Tryz.prog) W3 (w.heap.size + 4) 27 27 56 j0 _ 2 16 Tryz.underlying27 hj hy0 hy1 hy2 rfl (by decide) (.slice ba k bc) k (ecells (lst L k)) BW3.out ⟨lW3, 0, none⟩ 1 1 [.int .i64 ip, .int .i64 il] rfl (cells_lit LW3.out) (by intro u hu; simp only [List.mem_cons, List.not_mem_nil, or_false] at hu; rcases hu with rfl | rfl <;> rfl) (by unfold maxLen; omega) (by omega) (by have := lt_of_heap FW3.out.b; omega)
            refine wpH_append (by rfl) rfl rfl rfl hrW4 ?_
            have FW4 : Hid (F4 w W4 ver (.slice aa k ac) (.slice ba k bc)) := FW3.out.grown hgW4 (fun g e => row_ge BW3.out g e)
            obtain ⟨aW4, cW4, hvW4, _⟩ := row_slice hoW4
            subst hvW4
            have BW4 : Hid (W4.ownsRow (w.heap.size + 4) 56 2 (.slice aW4 (k + 1) cW4) (k + 1) (ecells (lst L k) ++ [.int .i64 ip, .int .i64 il])) := hoW4
            have AW4 : Hid (W4.ownsRow (w.heap.size + 4) 51 2 (.slice aW2 (k + 1) cW2) (k + 1) (ecells (lst L k) ++ [.int .i64 ip, .int .i64 il])) := row_grown hneT AW3.out BW3.out hgW4
            refine hK.out _ _ (HSL.out _ _ FW4.out) (fun hHeld => ?_)
            clear hK K hrW4 hoW4 hgW4 hnW4
            simp only [Act.put, List.setIfInBounds_toArray, List.set_cons_zero, List.set_cons_succ]
            refine Rg.wpAnyL_ready (rs := [17]) (by kernel_rfl) (by simp) ?_
            refine (Rg.AllReadyL.cons (o := _) (by simp only [List.getElem?_toArray, List.getElem?_cons_succ, List.getElem?_cons_zero]; rfl) (fun K hK => ?_) Rg.AllReadyL.nil)
            obtain ⟨p0, p1, p2, p3⟩ := agg2 FW4.out.a
            go_simp
            go_wp2_with fail
            obtain ⟨W5, hW5⟩ : ∃ W5, W5 = W4.setCell ⟨w.heap.size + 1 + 1, 1, none⟩ (.slice aW2 (k + 1) cW2) := ⟨_, rfl⟩
            have FW5 : Hid (F4 w W5 ver (.slice aW2 (k + 1) cW2) (.slice ba k bc)) := by rw [hW5]; exact FW4.out.setA _
            have AW5 : Hid (W5.ownsRow (w.heap.size + 4) 51 2 (.slice aW2 (k + 1) cW2) (k + 1) (ecells (lst L k) ++ [.int .i64 ip, .int .i64 il])) := by rw [hW5]; exact row_setFar AW4.out (by omega)
            have BW5 : Hid (W5.ownsRow (w.heap.size + 4) 56 2 (.slice aW4 (k + 1) cW4) (k + 1) (ecells (lst L k) ++ [.int .i64 ip, .int .i64 il])) := by rw [hW5]; exact row_setFar BW4.out (by omega)
            rw [← hW5]
            clear hW5 p0 p1 p2 p3
            refine hK.out _ _ ⟨HIT.out _ FW5.out.below, fun h => absurd h (by decide), fun _ => cell_of_heap FW5.out.b 1 _ rfl⟩ (fun hHeld => ?_)
            clear hK K
            try simp only [Act.put, List.setIfInBounds_toArray, List.set_cons_zero, List.set_cons_succ]
            refine Rg.wpAnyL_take (i := 18) (oi := _) (v := _) (fun _ => True) (by simp only [List.getElem?_toArray, List.getElem?_cons_succ, List.getElem?_cons_zero]; rfl) (by kernel_rfl) (by kernel_rfl) (by kernel_rfl) (by kernel_rfl) (by exact fun _ _ _ h => h) (sl_ind (by decide) (by decide)) (fun _ _ _ _ => trivial) (Or.inl ⟨by rfl, by intro w' hSw; (try dsimp only at hSw); first | (go_simp; done) | (go_simp; with_reducible rfl)⟩) hHeld (sl_put (by decide) (by decide) hHeld) (fun hHeld => ?_)
            simp only [Act.put, List.setIfInBounds_toArray, List.set_cons_zero, List.set_cons_succ]
            refine Rg.wpAnyL_ready (rs := [19]) (by kernel_rfl) (by simp) ?_
            refine (Rg.AllReadyL.cons (o := _) (by simp only [List.getElem?_toArray, List.getElem?_cons_succ, List.getElem?_cons_zero]; rfl) (fun K hK => ?_) Rg.AllReadyL.nil)
            obtain ⟨p0, p1, p2, p3⟩ := agg2 FW5.out.b
            go_simp
            go_wp2_with fail
            obtain ⟨W6, hW6⟩ : ∃ W6, W6 = W5.setCell ⟨w.heap.size + 1 + 1 + 1, 1, none⟩ (.slice aW4 (k + 1) cW4) := ⟨_, rfl⟩
            have FW6 : Hid (F4 w W6 ver (.slice aW2 (k + 1) cW2) (.slice aW4 (k + 1) cW4)) := by rw [hW6]; exact FW5.out.setB _
            have AW6 : Hid (W6.ownsRow (w.heap.size + 4) 51 2 (.slice aW2 (k + 1) cW2) (k + 1) (ecells (lst L k) ++ [.int .i64 ip, .int .i64 il])) := by rw [hW6]; exact row_setFar AW5.out (by omega)
            have BW6 : Hid (W6.ownsRow (w.heap.size + 4) 56 2 (.slice aW4 (k + 1) cW4) (k + 1) (ecells (lst L k) ++ [.int .i64 ip, .int .i64 il])) := by rw [hW6]; exact row_setFar BW5.out (by omega)
            rw [← hW6]
            clear hW6 p0 p1 p2 p3
            refine hK.out _ _ ⟨HIT.out _ FW6.out.below, fun h => absurd h (by decide), fun h => absurd h (by decide)⟩ (fun hHeld => ?_)
            clear hK K
            try simp only [Act.put, List.setIfInBounds_toArray, List.set_cons_zero, List.set_cons_succ]
            refine Rg.wpAnyL_done (by kernel_rfl) ?_ _
            clear hHeld
            go_wp2
            go_roundw
            case rel => exact ⟨k + 1, aW2, aW4, cW2, cW4, ⟨by omega, by omega⟩, by go_num, FW6.out, HROW.out _ _ AW6.out, HROWR.out _ _ BW6.out⟩
            case measure => simp [intOf]; omega
          · skip
            go_simp
            go_wp2_with fail
            obtain ⟨W7, hW7⟩ : ∃ W7, W7 = (W1.alloc (Obj.cells #[.int .i64 ip, .int .i64 il] 56)) := ⟨_, rfl⟩
            have FW7 : Hid (F4 w W7 ver (.slice aa k ac) (.slice ba k bc)) := by rw [hW7]; have hh := FW1.out.alloc (Obj.cells #[.int .i64 ip, .int .i64 il] 56); exact ⟨hh.a, hh.b, hh.ra, hh.rb, hh.below⟩
            have AW7 : Hid (W7.ownsRow (w.heap.size + 4) 51 2 (.slice aa k ac) k (ecells (lst L k))) := by rw [hW7]; exact (World.ownsRow.alloc AW1.out _)
            have BW7 : Hid (W7.ownsRow (w.heap.size + 4) 56 2 (.slice ba k bc) k (ecells (lst L k))) := by rw [hW7]; exact (World.ownsRow.alloc BW1.out _)
            have hLW7 : W7.heap[W1.heap.size]? = some (.cells #[.int .i64 ip, .int .i64 il] 56 (0, 0)) := by rw [hW7]; exact heap_alloc_new _ _
            obtain ⟨lW7, hlW7⟩ : ∃ lW7, lW7 = W1.heap.size := ⟨_, rfl⟩
            rw [← hlW7] at hLW7
            have LW7 : Hid (W7.heap[lW7]? = some (.cells #[.int .i64 ip, .int .i64 il] 56 (0, 0))) := hLW7
            have MW7 : Hid (W7.heap[lW1]? = some (.cells #[.int .i64 ip, .int .i64 il] 51 (0, 0))) := by rw [hW7]; exact (Below.heap_alloc _ _ _ (lt_of_heap LW1.out)).trans LW1.out
            rw [← hW7, ← hlW7]
            clear hW7 hLW7 hlW7
            refine hK.out _ _ (HSL.out _ _ FW7.out) (fun hHeld => ?_)
            clear hK K
            try simp only [Act.put, List.setIfInBounds_toArray, List.set_cons_zero, List.set_cons_succ]
            refine Rg.wpAnyL_ready (rs := [7]) (by kernel_rfl) (by simp) ?_
            refine (Rg.AllReadyL.cons (o := _) (by simp only [List.getElem?_toArray, List.getElem?_cons_succ, List.getElem?_cons_zero]; rfl) (fun K hK => ?_) Rg.AllReadyL.nil)
            obtain ⟨vW8, W8, hrW8, hoW8, hgW8, hnW8⟩ := run_append_near (P := Tryz.prog) W7 (w.heap.size + 4) 24 24 51 i0 _ 2 16 Tryz.underlying24 hi hz0 hz1 hz2 rfl (by decide) (.slice aa k ac) k (ecells (lst L k)) AW7.out ⟨lW1, 0, none⟩ 1 1 [.int .i64 ip, .int .i64 il] rfl (cells_lit MW7.out) (by intro u hu; simp only [List.mem_cons, List.not_mem_nil, or_false] at hu; rcases hu with rfl | rfl <;> rfl) (by unfold maxLen; omega) (by omega) (by have := lt_of_heap FW7.out.b; omega)
            refine wpH_append (by rfl) rfl rfl rfl hrW8 ?_
            have FW8 : Hid (F4 w W8 ver (.slice aa k ac) (.slice ba k bc)) := FW7.out.grown hgW8 (fun g e => row_ge AW7.out g e)
            obtain ⟨aW8, cW8, hvW8, _⟩ := row_slice hoW8
            subst hvW8
            have AW8 : Hid (W8.ownsRow (w.heap.size + 4) 51 2 (.slice aW8 (k + 1) cW8) (k + 1) (ecells (lst L k) ++ [.int .i64 ip, .int .i64 il])) := hoW8
            have BW8 : Hid (W8.ownsRow (w.heap.size + 4) 56 2 (.slice ba k bc) k (ecells (lst L k))) := row_grown hneT' BW7.out AW7.out hgW8
            have MW8 : Hid (W8.heap[lW7]? = some (.cells #[.int .i64 ip, .int .i64 il] 56 (0, 0))) := lit_grown hneT' LW7.out AW7.out hgW8
            refine hK.out _ _ (HSL.out _ _ FW8.out) (fun hHeld => ?_)
            clear hK K hrW8 hoW8 hgW8 hnW8
            simp only [Act.put, List.setIfInBounds_toArray, List.set_cons_zero, List.set_cons_succ]
            refine Rg.wpAnyL_take (i := 16) (oi := _) (v := _) (fun _ => True) (by simp only [List.getElem?_toArray, List.getElem?_cons_succ, List.getElem?_cons_zero]; rfl) (by kernel_rfl) (by kernel_rfl) (by kernel_rfl) (by kernel_rfl) (by exact fun _ _ _ h => h) (sl_ind (by decide) (by decide)) (fun _ _ _ _ => trivial) (Or.inl ⟨by rfl, by intro w' hSw; (try dsimp only at hSw); first | (go_simp; done) | (go_simp; with_reducible rfl)⟩) hHeld (sl_put (by decide) (by decide) hHeld) (fun hHeld => ?_)
            simp only [Act.put, List.setIfInBounds_toArray, List.set_cons_zero, List.set_cons_succ]
            refine Rg.wpAnyL_ready (rs := [15]) (by kernel_rfl) (by simp) ?_
            refine (Rg.AllReadyL.cons (o := _) (by simp only [List.getElem?_toArray, List.getElem?_cons_succ, List.getElem?_cons_zero]; rfl) (fun K hK => ?_) Rg.AllReadyL.nil)
            obtain ⟨vW9, W9, hrW9, hoW9, hgW9, hnW9⟩ := run_append_near (P := Tryz.prog) W8 (w.heap.size + 4) 27 27 56 j0 _ 2 16 Tryz.underlying27 hj hy0 hy1 hy2 rfl (by decide) (.slice ba k bc) k (ecells (lst L k)) BW8.out ⟨lW7, 0, none⟩ 1 1 [.int .i64 ip, .int .i64 il] rfl (cells_lit MW8.out) (by intro u hu; simp only [List.mem_cons, List.not_mem_nil, or_false] at hu; rcases hu with rfl | rfl <;> rfl) (by unfold maxLen; omega) (by omega) (by have := lt_of_heap FW8.out.b; omega)
            refine wpH_append (by rfl) rfl rfl rfl hrW9 ?_
            have FW9 : Hid (F4 w W9 ver (.slice aa k ac) (.slice ba k bc)) := FW8.out.grown hgW9 (fun g e => row_ge BW8.out g e)
            obtain ⟨aW9, cW9, hvW9, _⟩ := row_slice hoW9
            subst hvW9
            have BW9 : Hid (W9.ownsRow (w.heap.size + 4) 56 2 (.slice aW9 (k + 1) cW9) (k + 1) (ecells (lst L k) ++ [.int .i64 ip, .int .i64 il])) := hoW9
            have AW9 : Hid (W9.ownsRow (w.heap.size + 4) 51 2 (.slice aW8 (k + 1) cW8) (k + 1) (ecells (lst L k) ++ [.int .i64 ip, .int .i64 il])) := row_grown hneT AW8.out BW8.out hgW9
            refine hK.out _ _ (HSL.out _ _ FW9.out) (fun hHeld => ?_)
            clear hK K hrW9 hoW9 hgW9 hnW9
            simp only [Act.put, List.setIfInBounds_toArray, List.set_cons_zero, List.set_cons_succ]
            refine Rg.wpAnyL_ready (rs := [17]) (by kernel_rfl) (by simp) ?_
            refine (Rg.AllReadyL.cons (o := _) (by simp only [List.getElem?_toArray, List.getElem?_cons_succ, List.getElem?_cons_zero]; rfl) (fun K hK => ?_) Rg.AllReadyL.nil)
            obtain ⟨p0, p1, p2, p3⟩ := agg2 FW9.out.a
            go_simp
            go_wp2_with fail
            obtain ⟨W10, hW10⟩ : ∃ W10, W10 = W9.setCell ⟨w.heap.size + 1 + 1, 1, none⟩ (.slice aW8 (k + 1) cW8) := ⟨_, rfl⟩
            have FW10 : Hid (F4 w W10 ver (.slice aW8 (k + 1) cW8) (.slice ba k bc)) := by rw [hW10]; exact FW9.out.setA _
            have AW10 : Hid (W10.ownsRow (w.heap.size + 4) 51 2 (.slice aW8 (k + 1) cW8) (k + 1) (ecells (lst L k) ++ [.int .i64 ip, .int .i64 il])) := by rw [hW10]; exact row_setFar AW9.out (by omega)
            have BW10 : Hid (W10.ownsRow (w.heap.size + 4) 56 2 (.slice aW9 (k + 1) cW9) (k + 1) (ecells (lst L k) ++ [.int .i64 ip, .int .i64 il])) := by rw [hW10]; exact row_setFar BW9.out (by omega)
            rw [← hW10]
            clear hW10 p0 p1 p2 p3
            refine hK.out _ _ ⟨HIT.out _ FW10.out.below, fun h => absurd h (by decide), fun _ => cell_of_heap FW10.out.b 1 _ rfl⟩ (fun hHeld => ?_)
            clear hK K
            try simp only [Act.put, List.setIfInBounds_toArray, List.set_cons_zero, List.set_cons_succ]
            refine Rg.wpAnyL_take (i := 18) (oi := _) (v := _) (fun _ => True) (by simp only [List.getElem?_toArray, List.getElem?_cons_succ, List.getElem?_cons_zero]; rfl) (by kernel_rfl) (by kernel_rfl) (by kernel_rfl) (by kernel_rfl) (by exact fun _ _ _ h => h) (sl_ind (by decide) (by decide)) (fun _ _ _ _ => trivial) (Or.inl ⟨by rfl, by intro w' hSw; (try dsimp only at hSw); first | (go_simp; done) | (go_simp; with_reducible rfl)⟩) hHeld (sl_put (by decide) (by decide) hHeld) (fun hHeld => ?_)
            simp only [Act.put, List.setIfInBounds_toArray, List.set_cons_zero, List.set_cons_succ]
            refine Rg.wpAnyL_ready (rs := [19]) (by kernel_rfl) (by simp) ?_
            refine (Rg.AllReadyL.cons (o := _) (by simp only [List.getElem?_toArray, List.getElem?_cons_succ, List.getElem?_cons_zero]; rfl) (fun K hK => ?_) Rg.AllReadyL.nil)
            obtain ⟨p0, p1, p2, p3⟩ := agg2 FW10.out.b
            go_simp
            go_wp2_with fail
            obtain ⟨W11, hW11⟩ : ∃ W11, W11 = W10.setCell ⟨w.heap.size + 1 + 1 + 1, 1, none⟩ (.slice aW9 (k + 1) cW9) := ⟨_, rfl⟩
            have FW11 : Hid (F4 w W11 ver (.slice aW8 (k + 1) cW8) (.slice aW9 (k + 1) cW9)) := by rw [hW11]; exact FW10.out.setB _
            have AW11 : Hid (W11.ownsRow (w.heap.size + 4) 51 2 (.slice aW8 (k + 1) cW8) (k + 1) (ecells (lst L k) ++ [.int .i64 ip, .int .i64 il])) := by rw [hW11]; exact row_setFar AW10.out (by omega)
            have BW11 : Hid (W11.ownsRow (w.heap.size + 4) 56 2 (.slice aW9 (k + 1) cW9) (k + 1) (ecells (lst L k) ++ [.int .i64 ip, .int .i64 il])) := by rw [hW11]; exact row_setFar BW10.out (by omega)
            rw [← hW11]
            clear hW11 p0 p1 p2 p3
            refine hK.out _ _ ⟨HIT.out _ FW11.out.below, fun h => absurd h (by decide), fun h => absurd h (by decide)⟩ (fun hHeld => ?_)
            clear hK K
            try simp only [Act.put, List.setIfInBounds_toArray, List.set_cons_zero, List.set_cons_succ]
            refine Rg.wpAnyL_done (by kernel_rfl) ?_ _
            clear hHeld
            go_wp2
            go_roundw
            case rel => exact ⟨k + 1, aW8, aW9, cW8, cW9, ⟨by omega, by omega⟩, by go_num, FW11.out, HROW.out _ _ AW11.out, HROWR.out _ _ BW11.out⟩
            case measure => simp [intOf]; omega
        · skip
          go_simp
          go_wp2_with fail
          obtain ⟨W12, hW12⟩ : ∃ W12, W12 = (wr.alloc (Obj.cells #[.int .i64 ip, .int .i64 il] 56)).drew := ⟨_, rfl⟩
          have FW12 : Hid (F4 w W12 ver (.slice aa k ac) (.slice ba k bc)) := by rw [hW12]; have hh := HBI.out.alloc (Obj.cells #[.int .i64 ip, .int .i64 il] 56); exact ⟨hh.a, hh.b, hh.ra, hh.rb, hh.below.drew⟩
          have AW12 : Hid (W12.ownsRow (w.heap.size + 4) 51 2 (.slice aa k ac) k (ecells (lst L k))) := by rw [hW12]; exact World.ownsRow.drew (World.ownsRow.alloc HRA.out _)
          have BW12 : Hid (W12.ownsRow (w.heap.size + 4) 56 2 (.slice ba k bc) k (ecells (lst L k))) := by rw [hW12]; exact World.ownsRow.drew (World.ownsRow.alloc HRB.out _)
          have hLW12 : W12.heap[wr.heap.size]? = some (.cells #[.int .i64 ip, .int .i64 il] 56 (0, 0)) := by rw [hW12]; exact heap_alloc_new _ _
          obtain ⟨lW12, hlW12⟩ : ∃ lW12, lW12 = wr.heap.size := ⟨_, rfl⟩
          rw [← hlW12] at hLW12
          have LW12 : Hid (W12.heap[lW12]? = some (.cells #[.int .i64 ip, .int .i64 il] 56 (0, 0))) := hLW12
          rw [← hW12, ← hlW12]
          clear hW12 hLW12 hlW12
          refine hK.out _ _ (HSL.out _ _ FW12.out) (fun hHeld => ?_)
          clear hK K
          try simp only [Act.put, List.setIfInBounds_toArray, List.set_cons_zero, List.set_cons_succ]
          refine Rg.wpAnyL_ready (rs := [6]) (by kernel_rfl) (by simp) ?_
          refine (Rg.AllReadyL.cons (o := _) (by simp only [List.getElem?_toArray, List.getElem?_cons_succ, List.getElem?_cons_zero]; rfl) (fun K hK => ?_) Rg.AllReadyL.nil)
          go_simp
          go_wp2_with fail
          obtain ⟨W13, hW13⟩ : ∃ W13, W13 = (W12.alloc (Obj.cells #[.int .i64 ip, .int .i64 il] 51)) := ⟨_, rfl⟩
          have FW13 : Hid (F4 w W13 ver (.slice aa k ac) (.slice ba k bc)) := by rw [hW13]; have hh := FW12.out.alloc (Obj.cells #[.int .i64 ip, .int .i64 il] 51); exact ⟨hh.a, hh.b, hh.ra, hh.rb, hh.below⟩
          have AW13 : Hid (W13.ownsRow (w.heap.size + 4) 51 2 (.slice aa k ac) k (ecells (lst L k))) := by rw [hW13]; exact (World.ownsRow.alloc AW12.out _)
          have BW13 : Hid (W13.ownsRow (w.heap.size + 4) 56 2 (.slice ba k bc) k (ecells (lst L k))) := by rw [hW13]; exact (World.ownsRow.alloc BW12.out _)
          have hLW13 : W13.heap[W12.heap.size]? = some (.cells #[.int .i64 ip, .int .i64 il] 51 (0, 0)) := by rw [hW13]; exact heap_alloc_new _ _
          obtain ⟨lW13, hlW13⟩ : ∃ lW13, lW13 = W12.heap.size := ⟨_, rfl⟩
          rw [← hlW13] at hLW13
          have LW13 : Hid (W13.heap[lW13]? = some (.cells #[.int .i64 ip, .int .i64 il] 51 (0, 0))) := hLW13
          have MW13 : Hid (W13.heap[lW12]? = some (.cells #[.int .i64 ip, .int .i64 il] 56 (0, 0))) := by rw [hW13]; exact (Below.heap_alloc _ _ _ (lt_of_heap LW12.out)).trans LW12.out
          rw [← hW13, ← hlW13]
          clear hW13 hLW13 hlW13
          refine hK.out _ _ (HSL.out _ _ FW13.out) (fun hHeld => ?_)
          clear hK K
          try simp only [Act.put, List.setIfInBounds_toArray, List.set_cons_zero, List.set_cons_succ]
          refine Rg.wpAnyL_ready (rs := [7]) (by kernel_rfl) (by simp) ?_
          refine (Rg.AllReadyL.cons (o := _) (by simp only [List.getElem?_toArray, List.getElem?_cons_succ, List.getElem?_cons_zero]; rfl) (fun K hK => ?_) Rg.AllReadyL.nil)
          obtain ⟨vW14, W14, hrW14, hoW14, hgW14, hnW14⟩ := run_append_near (P := Tryz.prog) W13 (w.heap.size + 4) 24 24 51 i0 _ 2 16 Tryz.underlying24 hi hz0 hz1 hz2 rfl (by decide) (.slice aa k ac) k (ecells (lst L k)) AW13.out ⟨lW13, 0, none⟩ 1 1 [.int .i64 ip, .int .i64 il] rfl (cells_lit LW13.out) (by intro u hu; simp only [List.mem_cons, List.not_mem_nil, or_false] at hu; rcases hu with rfl | rfl <;> rfl) (by unfold maxLen; omega) (by omega) (by have := lt_of_heap FW13.out.b; omega)
          refine wpH_append (by rfl) rfl rfl rfl hrW14 ?_
          have FW14 : Hid (F4 w W14 ver (.slice aa k ac) (.slice ba k bc)) := FW13.out.grown hgW14 (fun g e => row_ge AW13.out g e)
          obtain ⟨aW14, cW14, hvW14, _⟩ := row_slice hoW14
          subst hvW14
          have AW14 : Hid (W14.ownsRow (w.heap.size + 4) 51 2 (.slice aW14 (k + 1) cW14) (k + 1) (ecells (lst L k) ++ [.int .i64 ip, .int .i64 il])) := hoW14
          have BW14 : Hid (W14.ownsRow (w.heap.size + 4) 56 2 (.slice ba k bc) k (ecells (lst L k))) := row_grown hneT' BW13.out AW13.out hgW14
          have MW14 : Hid (W14.heap[lW12]? = some (.cells #[.int .i64 ip, .int .i64 il] 56 (0, 0))) := lit_grown hneT' MW13.out AW13.out hgW14
          refine hK.out _ _ (HSL.out _ _ FW14.out) (fun hHeld => ?_)
          clear hK K hrW14 hoW14 hgW14 hnW14
          simp only [Act.put, List.setIfInBounds_toArray, List.set_cons_zero, List.set_cons_succ]
          refine Rg.wpAnyL_take (i := 16) (oi := _) (v := _) (fun _ => True) (by simp only [List.getElem?_toArray, List.getElem?_cons_succ, List.getElem?_cons_zero]; rfl) (by kernel_rfl) (by kernel_rfl) (by kernel_rfl) (by kernel_rfl) (by exact fun _ _ _ h => h) (sl_ind (by decide) (by decide)) (fun _ _ _ _ => trivial) (Or.inl ⟨by rfl, by intro w' hSw; (try dsimp only at hSw); first | (go_simp; done) | (go_simp; with_reducible rfl)⟩) hHeld (sl_put (by decide) (by decide) hHeld) (fun hHeld => ?_)
          simp only [Act.put, List.setIfInBounds_toArray, List.set_cons_zero, List.set_cons_succ]
          refine Rg.wpAnyL_ready (rs := [15]) (by kernel_rfl) (by simp) ?_
          refine (Rg.AllReadyL.cons (o := _) (by simp only [List.getElem?_toArray, List.getElem?_cons_succ, List.getElem?_cons_zero]; rfl) (fun K hK => ?_) Rg.AllReadyL.nil)
          obtain ⟨vW15, W15, hrW15, hoW15, hgW15, hnW15⟩ := run_append_near (P := Tryz.prog) W14 (w.heap.size + 4) 27 27 56 j0 _ 2 16 Tryz.underlying27 hj hy0 hy1 hy2 rfl (by decide) (.slice ba k bc) k (ecells (lst L k)) BW14.out ⟨lW12, 0, none⟩ 1 1 [.int .i64 ip, .int .i64 il] rfl (cells_lit MW14.out) (by intro u hu; simp only [List.mem_cons, List.not_mem_nil, or_false] at hu; rcases hu with rfl | rfl <;> rfl) (by unfold maxLen; omega) (by omega) (by have := lt_of_heap FW14.out.b; omega)
          refine wpH_append (by rfl) rfl rfl rfl hrW15 ?_
          have FW15 : Hid (F4 w W15 ver (.slice aa k ac) (.slice ba k bc)) := FW14.out.grown hgW15 (fun g e => row_ge BW14.out g e)
          obtain ⟨aW15, cW15, hvW15, _⟩ := row_slice hoW15
          subst hvW15
          have BW15 : Hid (W15.ownsRow (w.heap.size + 4) 56 2 (.slice aW15 (k + 1) cW15) (k + 1) (ecells (lst L k) ++ [.int .i64 ip, .int .i64 il])) := hoW15
          have AW15 : Hid (W15.ownsRow (w.heap.size + 4) 51 2 (.slice aW14 (k + 1) cW14) (k + 1) (ecells (lst L k) ++ [.int .i64 ip, .int .i64 il])) := row_grown hneT AW14.out BW14.out hgW15
          refine hK.out _ _ (HSL.out _ _ FW15.out) (fun hHeld => ?_)
          clear hK K hrW15 hoW15 hgW15 hnW15
          simp only [Act.put, List.setIfInBounds_toArray, List.set_cons_zero, List.set_cons_succ]
          refine Rg.wpAnyL_ready (rs := [17]) (by kernel_rfl) (by simp) ?_
          refine (Rg.AllReadyL.cons (o := _) (by simp only [List.getElem?_toArray, List.getElem?_cons_succ, List.getElem?_cons_zero]; rfl) (fun K hK => ?_) Rg.AllReadyL.nil)
          obtain ⟨p0, p1, p2, p3⟩ := agg2 FW15.out.a
          go_simp
          go_wp2_with fail
          obtain ⟨W16, hW16⟩ : ∃ W16, W16 = W15.setCell ⟨w.heap.size + 1 + 1, 1, none⟩ (.slice aW14 (k + 1) cW14) := ⟨_, rfl⟩
          have FW16 : Hid (F4 w W16 ver (.slice aW14 (k + 1) cW14) (.slice ba k bc)) := by rw [hW16]; exact FW15.out.setA _
          have AW16 : Hid (W16.ownsRow (w.heap.size + 4) 51 2 (.slice aW14 (k + 1) cW14) (k + 1) (ecells (lst L k) ++ [.int .i64 ip, .int .i64 il])) := by rw [hW16]; exact row_setFar AW15.out (by omega)
          have BW16 : Hid (W16.ownsRow (w.heap.size + 4) 56 2 (.slice aW15 (k + 1) cW15) (k + 1) (ecells (lst L k) ++ [.int .i64 ip, .int .i64 il])) := by rw [hW16]; exact row_setFar BW15.out (by omega)
          rw [← hW16]
          clear hW16 p0 p1 p2 p3
          refine hK.out _ _ ⟨HIT.out _ FW16.out.below, fun h => absurd h (by decide), fun _ => cell_of_heap FW16.out.b 1 _ rfl⟩ (fun hHeld => ?_)
          clear hK K
          try simp only [Act.put, List.setIfInBounds_toArray, List.set_cons_zero, List.set_cons_succ]
          refine Rg.wpAnyL_take (i := 18) (oi := _) (v := _) (fun _ => True) (by simp only [List.getElem?_toArray, List.getElem?_cons_succ, List.getElem?_cons_zero]; rfl) (by kernel_rfl) (by kernel_rfl) (by kernel_rfl) (by kernel_rfl) (by exact fun _ _ _ h => h) (sl_ind (by decide) (by decide)) (fun _ _ _ _ => trivial) (Or.inl ⟨by rfl, by intro w' hSw; (try dsimp only at hSw); first | (go_simp; done) | (go_simp; with_reducible rfl)⟩) hHeld (sl_put (by decide) (by decide) hHeld) (fun hHeld => ?_)
          simp only [Act.put, List.setIfInBounds_toArray, List.set_cons_zero, List.set_cons_succ]
          refine Rg.wpAnyL_ready (rs := [19]) (by kernel_rfl) (by simp) ?_
          refine (Rg.AllReadyL.cons (o := _) (by simp only [List.getElem?_toArray, List.getElem?_cons_succ, List.getElem?_cons_zero]; rfl) (fun K hK => ?_) Rg.AllReadyL.nil)
          obtain ⟨p0, p1, p2, p3⟩ := agg2 FW16.out.b
          go_simp
          go_wp2_with fail
          obtain ⟨W17, hW17⟩ : ∃ W17, W17 = W16.setCell ⟨w.heap.size + 1 + 1 + 1, 1, none⟩ (.slice aW15 (k + 1) cW15) := ⟨_, rfl⟩
          have FW17 : Hid (F4 w W17 ver (.slice aW14 (k + 1) cW14) (.slice aW15 (k + 1) cW15)) := by rw [hW17]; exact FW16.out.setB _
          have AW17 : Hid (W17.ownsRow (w.heap.size + 4) 51 2 (.slice aW14 (k + 1) cW14) (k + 1) (ecells (lst L k) ++ [.int .i64 ip, .int .i64 il])) := by rw [hW17]; exact row_setFar AW16.out (by omega)
          have BW17 : Hid (W17.ownsRow (w.heap.size + 4) 56 2 (.slice aW15 (k + 1) cW15) (k + 1) (ecells (lst L k) ++ [.int .i64 ip, .int .i64 il])) := by rw [hW17]; exact row_setFar BW16.out (by omega)
          rw [← hW17]
          clear hW17 p0 p1 p2 p3
          refine hK.out _ _ ⟨HIT.out _ FW17.out.below, fun h => absurd h (by decide), fun h => absurd h (by decide)⟩ (fun hHeld => ?_)
          clear hK K
          try simp only [Act.put, List.setIfInBounds_toArray, List.set_cons_zero, List.set_cons_succ]
          refine Rg.wpAnyL_done (by kernel_rfl) ?_ _
          clear hHeld
          go_wp2
          go_roundw
          case rel => exact ⟨k + 1, aW14, aW15, cW14, cW15, ⟨by omega, by omega⟩, by go_num, FW17.out, HROW.out _ _ AW17.out, HROWR.out _ _ BW17.out⟩
          case measure => simp [intOf]; omega
    · have hmin : min len 40 = k := by omega
      have hend : (k : Int) < (len : Int) → ¬ (k : Int) < 40 := fun h1 h2 => hlt ⟨by omega, by omega⟩
      have HMIN : Hid (min len 40 = k) := hmin
      clear hlt HI0 hmin
      obtain ⟨a0, a1, a2, a3⟩ := agg2 HBI.out.a
      obtain ⟨b0, b1, b2, b3⟩ := agg2 HBI.out.b
      obtain ⟨r0, r1, r2, r3⟩ := agg2 HBI.out.ra
      obtain ⟨s0, s1, s2, s3⟩ := agg2 HBI.out.rb
      by_cases hA : (k : Int) < (len : Int)
      all_goals
        go_wp2
        go_region
        obtain ⟨w8, hw8⟩ : ∃ w8, w8 = ((((wr.setCell ⟨w.heap.size, 0, none⟩ (.int .i64 ver)).setCell ⟨w.heap.size, 1, none⟩ (.slice aa k ac)).setCell ⟨w.heap.size + 1, 0, none⟩ (.int .i64 ver)).setCell ⟨w.heap.size + 1, 1, none⟩ (.slice ba k bc)).drew := ⟨_, rfl⟩
        rw [← hw8]
        have H0 : w8.heap[w.heap.size]? = some (.cells #[.int .i64 ver, .slice aa k ac] 26 (0, 0)) := by rw [hw8]; exact (set2_other (by omega) _ _).trans (set2_heap HBI.out.ra _ _)
        have H1 : w8.heap[w.heap.size + 1]? = some (.cells #[.int .i64 ver, .slice ba k bc] 29 (0, 0)) := by rw [hw8]; exact set2_heap ((set2_other (by omega) _ _).trans HBI.out.rb) _ _
        have HB8 : Below w.heap.size w w8 := by rw [hw8]; exact (set2_below (set2_below HBI.out.below _ (Nat.le_refl _) _ _) _ (by omega) _ _).drew
        have HA8 : Row w8 (w.heap.size + 4) (.slice aa k ac) (lst L k) := by
          unfold Row; rw [lst_length, hw8]
          exact row_keep HRA.out (fun g e => by have := row_ge HRA.out g e; exact (set2_other (by omega) _ _).trans (set2_other (by omega) _ _))
        have HBB8 : RowR w8 (w.heap.size + 4) (.slice ba k bc) (lst L k) := by
          unfold RowR; rw [lst_length, hw8]
          exact row_keep HRB.out (fun g e => by have := row_ge HRB.out g e; exact (set2_other (by omega) _ _).trans (set2_other (by omega) _ _))
        have HH0 : Hid (_ = _) := H0
        have HH1 : Hid (_ = _) := H1
        have HHA : Hid (Row w8 (w.heap.size + 4) (.slice aa k ac) (lst L k)) := HA8
        have HHB : Hid (RowR w8 (w.heap.size + 4) (.slice ba k bc) (lst L k)) := HBB8
        have HHW : Hid (Below w.heap.size w w8) := HB8
        clear hw8 H0 H1 HA8 HBB8 HB8 a0 a1 a2 a3 b0 b1 b2 b3 r0 r1 r2 r3 s0 s1 s2 s3
        go_wp2
        refine bodyPost_ret (res_both _ w.heap.size _ ver aa ba k k ac bc rfl rfl HH0.out HH1.out) rfl ?_
        exact ⟨⟨_, _, rfl, by rw [HMIN.out]; exact row_base HHA.out (by omega), by rw [HMIN.out]; exact row_base HHB.out (by omega)⟩, HHW.out⟩

end Go.Proofs.YtadimbpgdihjlaaGreatDoor.Id
