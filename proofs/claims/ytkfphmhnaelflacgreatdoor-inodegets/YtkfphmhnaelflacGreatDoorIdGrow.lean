/-
  An inode that grows by an extent. Condition: extents that lie below 2048.
-/
import Derived.Test.YtkfphmhnaelflacGreatDoorIdRead
namespace Go.Proofs.YtkfphmhnaelflacGreatDoor.Id
open Go.ChangeShapes Go.WideShapes Go.ChangeAt Go.RowKit Go.Proofs.Fa

variable {w : World} {B : Nat}
set_option maxRecDepth 100000
set_option maxHeartbeats 1000000

/-- An error by its number; 0: none. -/
def errV (n : Int) : Value := if n = 0 then .nilIface else .iface 57 (.int .i64 n)

def joinsF (l : List Ext) (e : Ext) : Bool := match l.getLast? with
  | some o => o.pos + o.len == e.pos
  | none => false
/-- Which error growing has. -/
def growE (l : List Ext) (e : Ext) : Int := if mayF l e = true then (if joinsF l e = true ∨ l.length < 36 then 0 else 19) else 1
/-- What Grow answers. -/
def GrowAt (w : World) (ver : Int) (l : List Ext) (e : Ext) (r : Ending) (w' : World) : Prop :=
  (∃ ver' v', r = .returned (.tuple #[ino ver' v', errV (growE l e)]) ∧ (growE l e = 0 → ver' = ver + 1 ∧ Row w' w.heap.size v' (appF l e)) ∧ (growE l e ≠ 0 → ver' = 0 ∧ v' = .slice none 0 0)) ∧ Below w.heap.size w w'

theorem ecells_set_len (a : List Ext) (o : Ext) (x : Int) : (ecells (a ++ [o])).set (a.length * 2 + 1) (.int .i64 x) = ecells (a ++ [⟨o.pos, x⟩]) := by
  rw [ecells_append, ecells_append, List.set_append_right _ _ (by rw [ecells_length]; omega), ecells_length]
  rw [show a.length * 2 + 1 - a.length * 2 = 1 by omega]
  rfl
theorem joinsF_last (a : List Ext) (o e : Ext) : joinsF (a ++ [o]) e = (o.pos + o.len == e.pos) := by unfold joinsF; simp

theorem cells_new2 (w : World) (v0 v1 : Value) (t : TypeId) (j : Nat) (u : Value) (h : [v0, v1][j]? = some u) : (w.alloc (Obj.cells #[v0, v1] t)).cell? ((⟨w.heap.size, 0, none⟩ : Addr).add j) = some u := by
  have e : (⟨w.heap.size, 0, none⟩ : Addr).add j = ⟨w.heap.size, j, none⟩ := by simp [Addr.add_lit]
  rw [e]
  exact cell_of_heap (heap_alloc_new w _) j u (by simpa using h)

theorem res_grow (tm : Array Value) (rb : Nat) (W : World) (ver : Int) (a : Option Addr) (n c : Nat) (er : Value) (h4 : tm[4]? = some (.pointer (some ⟨rb, 0, none⟩))) (h5 : tm.getD 5 undef = er) (h : W.heap[rb]? = some (.cells #[.int .i64 ver, .slice a n c] 26 (0, 0))) :
    (results Tryz.f16 tm).run Tryz.prog W = .ok (.tuple #[ino ver (.slice a n c), er]) W := by
  obtain ⟨c0, c1, _⟩ := agg2 h
  clear h
  subst h5
  simp [results, Tryz.f16, go_sem, h4, c0, c1, ino]

theorem grow_any (ver : Int) (v : Value) (l : List Ext) (e : Ext) (hr : Row w B v l) (hn : l.length ≤ 1000) (hl : OkL l) (hv : 0 ≤ ver ∧ ver < 1000000) (he : -9223372036854775808 ≤ e.pos ∧ e.pos ≤ 9223372036854775807) :
    Calls Tryz.prog 16 #[ino ver v, e.agg] w fun r w' => GrowAt w ver l e r w' := by
  have hmay := fun w hr => mayHave_any (w := w) (B := B) ver v l e hr (by omega) hl he
  have hnext := fun w hr => next_any (w := w) (B := B) ver v l hr (by omega) (by omega)
  obtain ⟨n, hln⟩ : ∃ n, l.length = n := ⟨_, rfl⟩
  obtain ⟨a, cap, hv0, hmx⟩ := row_slice hr
  rw [hln] at hv0 hmx hn
  subst hv0
  have HR : Hid (Row w B (.slice a n cap) l) := hr
  have HL : Hid (OkL l) := hl
  clear hr hl
  obtain ⟨p, q⟩ := e
  simp only [ino, Ext.agg] at *
  obtain ⟨w0, hw0⟩ : ∃ w0, w0 = ((w.alloc (Obj.cells #[.int .i64 ver, .slice a n cap] 26)).alloc (Obj.cells #[.int .i64 p, .int .i64 q] 51)).alloc (Obj.cells #[.int .i64 0, .slice none 0 0] 26) := ⟨_, rfl⟩
  have HB0 : Hid (Below w.heap.size w w0) := by rw [hw0]; exact (((Below.refl _ _).alloc (Nat.le_refl _) _).alloc (by simp) _).alloc (by simp; omega) _
  have HX0 : Hid (w0.heap[w.heap.size]? = some (.cells #[.int .i64 ver, .slice a n cap] 26 (0, 0))) := by
    rw [hw0]; exact ((Below.heap_alloc _ _ _ (by simp; omega)).trans (Below.heap_alloc _ _ _ (by simp))).trans (heap_alloc_new w _)
  have HE0 : Hid (w0.heap[w.heap.size + 1]? = some (.cells #[.int .i64 p, .int .i64 q] 51 (0, 0))) := by
    rw [hw0]
    have := heap_alloc_new (w.alloc (Obj.cells #[.int .i64 ver, .slice a n cap] 26)) (Obj.cells #[.int .i64 p, .int .i64 q] 51)
    rw [World.size_alloc] at this
    exact (Below.heap_alloc _ _ _ (by simp)).trans this
  have HY0 : Hid (w0.heap[w.heap.size + 2]? = some (.cells #[.int .i64 0, .slice none 0 0] 26 (0, 0))) := by
    rw [hw0]
    have := heap_alloc_new ((w.alloc (Obj.cells #[.int .i64 ver, .slice a n cap] 26)).alloc (Obj.cells #[.int .i64 p, .int .i64 q] 51)) (Obj.cells #[.int .i64 0, .slice none 0 0] 26)
    rw [World.size_alloc, World.size_alloc] at this
    exact this
  go_enter Tryz.func16, Tryz.ntmps16
  go_wp2_with fail
  rw [← hw0]
  refine (hmay w0 (row_below HR.out HB0.out (Nat.le_refl _))).mono ?_
  rintro r w1 ⟨rfl, hb1⟩
  clear hmay hw0
  have HX1 : Hid (w1.heap[w.heap.size]? = some (.cells #[.int .i64 ver, .slice a n cap] 26 (0, 0))) := (hb1.block _ (lt_of_heap HX0.out)).trans HX0.out
  have HE1 : Hid (w1.heap[w.heap.size + 1]? = some (.cells #[.int .i64 p, .int .i64 q] 51 (0, 0))) := (hb1.block _ (lt_of_heap HE0.out)).trans HE0.out
  have HY1 : Hid (w1.heap[w.heap.size + 2]? = some (.cells #[.int .i64 0, .slice none 0 0] 26 (0, 0))) := (hb1.block _ (lt_of_heap HY0.out)).trans HY0.out
  have HB1 : Hid (Below w.heap.size w w1) := HB0.out.trans (hb1.mono HB0.out.size)
  clear hb1 HX0 HE0 HY0 HB0 w0
  cases hm : mayF l ⟨p, q⟩
  · have HG : Hid (growE l ⟨p, q⟩ = 1) := by show _ = _; unfold growE; rw [hm]; rfl
    obtain ⟨y0, y1, z0, z1⟩ := agg2 HY1.out
    clear hnext
    go_wp2
    refine bodyPost_ret (res_grow _ (w.heap.size + 2) _ 0 none 0 0 _ rfl rfl (set2_heap HY1.out _ _)) rfl ?_
    refine ⟨⟨0, .slice none 0 0, ?_, fun h => ?_, fun _ => ⟨rfl, rfl⟩⟩, set2_below HB1.out _ (by omega) _ _⟩
    · rw [HG.out]; rfl
    · rw [HG.out] at h; cases h
  · have hN := hnext w1 (row_below HR.out HB1.out (Nat.le_refl _))
    obtain ⟨x0, x1, fx0, fx1⟩ := agg2 HX1.out
    clear hnext
    go_wp2_with fail
    refine hN.mono ?_
    rintro r w2 ⟨v2, rfl, hr2, hb2⟩
    clear hN x0 x1 fx0 fx1
    obtain ⟨a2, cap2, hv2, _⟩ := row_slice hr2
    rw [hln] at hv2
    subst hv2
    have HB2 : Hid (Below w.heap.size w w2) := HB1.out.trans (hb2.mono HB1.out.size)
    have HE2 : Hid (w2.heap[w.heap.size + 1]? = some (.cells #[.int .i64 p, .int .i64 q] 51 (0, 0))) := (hb2.block _ (lt_of_heap HE1.out)).trans HE1.out
    have HY2 : Hid (w2.heap[w.heap.size + 2]? = some (.cells #[.int .i64 0, .slice none 0 0] 26 (0, 0))) := (hb2.block _ (lt_of_heap HY1.out)).trans HY1.out
    have HR2 : Hid (Row w2 (w.heap.size + 3) (.slice a2 n cap2) l) := row_base hr2 (lt_of_heap HY1.out)
    clear hb2 hr2 HX1 HE1 HY1 HB1 w1
    obtain ⟨i0, hi, hz0, hz1, hz2⟩ := info_parts info_ext
    obtain ⟨w3, hw3⟩ : ∃ w3, w3 = w2.alloc (Obj.cells #[.int .i64 (ver + 1), .slice a2 n cap2] 26) := ⟨_, rfl⟩
    have HZ3 : Hid (w3.heap[w2.heap.size]? = some (.cells #[.int .i64 (ver + 1), .slice a2 n cap2] 26 (0, 0))) := by rw [hw3]; exact heap_alloc_new w2 _
    have hb3 : Below w2.heap.size w2 w3 := by rw [hw3]; exact (Below.refl _ _).alloc (Nat.le_refl _) _
    have HB3 : Hid (Below w.heap.size w w3) := HB2.out.trans (hb3.mono HB2.out.size)
    have HE3 : Hid (w3.heap[w.heap.size + 1]? = some (.cells #[.int .i64 p, .int .i64 q] 51 (0, 0))) := (hb3.block _ (lt_of_heap HE2.out)).trans HE2.out
    have HY3 : Hid (w3.heap[w.heap.size + 2]? = some (.cells #[.int .i64 0, .slice none 0 0] 26 (0, 0))) := (hb3.block _ (lt_of_heap HY2.out)).trans HY2.out
    have HR3 : Hid (Row w3 (w.heap.size + 3) (.slice a2 n cap2) l) := row_below HR2.out hb3 (Nat.le_refl _)
    have hz2lt : w.heap.size + 2 < w2.heap.size := lt_of_heap HY2.out
    have HLT : Hid (∀ g, (Value.slice a2 n cap2).ownBlock = some g → g < w2.heap.size) := fun g e => row_lt HR2.out g e
    clear hb3 HB2 HE2 HY2 HR2
    rcases last_cases l with rfl | ⟨b, o, rfl⟩
    · have hn0 : n = 0 := by rw [← hln]; rfl
      subst hn0
      clear hln
      have HA : Hid (appF [] ⟨p, q⟩ = [⟨p, q⟩]) := rfl
      have HG : Hid (growE [] ⟨p, q⟩ = 0) := by show _ = _; unfold growE; rw [hm]; rfl
      go_wp2_with fail
      rw [← hw3]
      clear hw3
      refine wp_region_held_drew (S := fun _ => True) (by kernel_rfl) (by exact True.intro) (fun hHeld => ?_)
      change wpAnyH _ _ _ _ _ 13 (Array.replicate 13 false) _ _
      refine wpAnyH_take (i := 0) (oi := _) (v := _) (by simp only [List.getElem?_toArray, List.getElem?_cons_zero]; rfl) (by kernel_rfl) (by kernel_rfl) (by kernel_rfl) (by exact fun _ _ _ h => h) (Or.inl ⟨by rfl, by intro w' hSw; (try dsimp only at hSw); first | (go_simp; done) | (go_simp; with_reducible rfl)⟩) hHeld ?_
      simp only [Act.put, List.setIfInBounds_toArray, List.set_cons_zero, List.set_cons_succ]
      refine wpAnyH_take (i := 1) (oi := _) (v := _) (by simp only [List.getElem?_toArray, List.getElem?_cons_succ, List.getElem?_cons_zero]; rfl) (by kernel_rfl) (by kernel_rfl) (by kernel_rfl) (by exact fun _ _ _ h => h) (Or.inl ⟨by rfl, by intro w' hSw; (try dsimp only at hSw); first | (go_simp; done) | (go_simp; with_reducible rfl)⟩) hHeld ?_
      simp only [Act.put, List.setIfInBounds_toArray, List.set_cons_zero, List.set_cons_succ]
      refine wpAnyH_take (i := 2) (oi := _) (v := _) (by simp only [List.getElem?_toArray, List.getElem?_cons_succ, List.getElem?_cons_zero]; rfl) (by kernel_rfl) (by kernel_rfl) (by kernel_rfl) (by exact fun _ _ _ h => h) (Or.inl ⟨by rfl, by intro w' hSw; (try dsimp only at hSw); first | (go_simp; done) | (go_simp; with_reducible rfl)⟩) hHeld ?_
      simp only [Act.put, List.setIfInBounds_toArray, List.set_cons_zero, List.set_cons_succ]
      refine wpAnyH_take (i := 3) (oi := _) (v := undef) (by simp only [List.getElem?_toArray, List.getElem?_cons_succ, List.getElem?_cons_zero]; rfl) (by kernel_rfl) (by kernel_rfl) (by kernel_rfl) (by exact fun _ _ _ h => h) (Or.inr ⟨by rfl, rfl⟩) hHeld ?_
      simp only [Act.put, List.setIfInBounds_toArray, List.set_cons_zero, List.set_cons_succ]
      refine wpAnyH_take (i := 4) (oi := _) (v := undef) (by simp only [List.getElem?_toArray, List.getElem?_cons_succ, List.getElem?_cons_zero]; rfl) (by kernel_rfl) (by kernel_rfl) (by kernel_rfl) (by exact fun _ _ _ h => h) (Or.inr ⟨by rfl, rfl⟩) hHeld ?_
      simp only [Act.put, List.setIfInBounds_toArray, List.set_cons_zero, List.set_cons_succ]
      refine wpAnyH_take (i := 5) (oi := _) (v := undef) (by simp only [List.getElem?_toArray, List.getElem?_cons_succ, List.getElem?_cons_zero]; rfl) (by kernel_rfl) (by kernel_rfl) (by kernel_rfl) (by exact fun _ _ _ h => h) (Or.inr ⟨by rfl, rfl⟩) hHeld ?_
      simp only [Act.put, List.setIfInBounds_toArray, List.set_cons_zero, List.set_cons_succ]
      refine wpAnyH_take (i := 6) (oi := _) (v := undef) (by simp only [List.getElem?_toArray, List.getElem?_cons_succ, List.getElem?_cons_zero]; rfl) (by kernel_rfl) (by kernel_rfl) (by kernel_rfl) (by exact fun _ _ _ h => h) (Or.inr ⟨by rfl, rfl⟩) hHeld ?_
      simp only [Act.put, List.setIfInBounds_toArray, List.set_cons_zero, List.set_cons_succ]
      refine wpAnyH_take (i := 7) (oi := _) (v := undef) (by simp only [List.getElem?_toArray, List.getElem?_cons_succ, List.getElem?_cons_zero]; rfl) (by kernel_rfl) (by kernel_rfl) (by kernel_rfl) (by exact fun _ _ _ h => h) (Or.inr ⟨by rfl, rfl⟩) hHeld ?_
      simp only [Act.put, List.setIfInBounds_toArray, List.set_cons_zero, List.set_cons_succ]
      refine wpAnyH_take (i := 8) (oi := _) (v := undef) (by simp only [List.getElem?_toArray, List.getElem?_cons_succ, List.getElem?_cons_zero]; rfl) (by kernel_rfl) (by kernel_rfl) (by kernel_rfl) (by exact fun _ _ _ h => h) (Or.inr ⟨by rfl, rfl⟩) hHeld ?_
      simp only [Act.put, List.setIfInBounds_toArray, List.set_cons_zero, List.set_cons_succ]
      refine wpAnyH_take (i := 9) (oi := _) (v := undef) (by simp only [List.getElem?_toArray, List.getElem?_cons_succ, List.getElem?_cons_zero]; rfl) (by kernel_rfl) (by kernel_rfl) (by kernel_rfl) (by exact fun _ _ _ h => h) (Or.inr ⟨by rfl, rfl⟩) hHeld ?_
      simp only [Act.put, List.setIfInBounds_toArray, List.set_cons_zero, List.set_cons_succ]
      refine wpAnyH_take (i := 10) (oi := _) (v := undef) (by simp only [List.getElem?_toArray, List.getElem?_cons_succ, List.getElem?_cons_zero]; rfl) (by kernel_rfl) (by kernel_rfl) (by kernel_rfl) (by exact fun _ _ _ h => h) (Or.inr ⟨by rfl, rfl⟩) hHeld ?_
      simp only [Act.put, List.setIfInBounds_toArray, List.set_cons_zero, List.set_cons_succ]
      refine wpAnyH_take (i := 11) (oi := _) (v := undef) (by simp only [List.getElem?_toArray, List.getElem?_cons_succ, List.getElem?_cons_zero]; rfl) (by kernel_rfl) (by kernel_rfl) (by kernel_rfl) (by exact fun _ _ _ h => h) (Or.inr ⟨by rfl, rfl⟩) hHeld ?_
      simp only [Act.put, List.setIfInBounds_toArray, List.set_cons_zero, List.set_cons_succ]
      refine wpAnyH_take (i := 12) (oi := _) (v := _) (by simp only [List.getElem?_toArray, List.getElem?_cons_succ, List.getElem?_cons_zero]; rfl) (by kernel_rfl) (by kernel_rfl) (by kernel_rfl) (by exact fun _ _ _ h => h) (Or.inl ⟨by rfl, by intro w' hSw; (try dsimp only at hSw); first | (go_simp; done) | (go_simp; with_reducible rfl)⟩) hHeld ?_
      simp only [Act.put, List.setIfInBounds_toArray, List.set_cons_zero, List.set_cons_succ]
      refine wpAnyH_done (by kernel_rfl) ?_ _
      obtain ⟨w4, hw4⟩ : ∃ w4, w4 = w3.drew := ⟨_, rfl⟩
      rw [← hw4]
      have HZ4 : Hid (w4.heap[w2.heap.size]? = some (.cells #[.int .i64 (ver + 1), .slice a2 0 cap2] 26 (0, 0))) := by rw [hw4]; exact HZ3.out
      have HE4 : Hid (w4.heap[w.heap.size + 1]? = some (.cells #[.int .i64 p, .int .i64 q] 51 (0, 0))) := by rw [hw4]; exact HE3.out
      have HY4 : Hid (w4.heap[w.heap.size + 2]? = some (.cells #[.int .i64 0, .slice none 0 0] 26 (0, 0))) := by rw [hw4]; exact HY3.out
      have HR4 : Hid (Row w4 (w.heap.size + 3) (.slice a2 0 cap2) []) := by rw [hw4]; exact World.ownsRow.drew HR3.out
      have HB4 : Hid (Below w.heap.size w w4) := by rw [hw4]; exact HB3.out.drew
      clear hw4 HZ3 HE3 HY3 HR3 HB3
      obtain ⟨zz0, zz1, zf0, zf1⟩ := agg2 HZ4.out
      obtain ⟨ee0, ee1, _, _⟩ := agg2 HE4.out
      go_wp2_with (
        at_builtin
        refine wpList_append_near _ rfl _ _ 24 rfl (w.heap.size + 3) 51 i0 _ 2 16 Tryz.underlying24 hi hz0 hz1 hz2 rfl (by decide) (.slice a2 0 cap2) 0 [] rfl (World.ownsRow.alloc HR4.out _) ⟨w4.heap.size, 0, none⟩ 1 1 [.int .i64 p, .int .i64 q] rfl rfl (cells_new2 _ _ _ _) (by intro u hu; simp only [List.mem_cons, List.not_mem_nil, or_false] at hu; rcases hu with rfl | rfl <;> rfl) (by unfold maxLen; omega) (by omega) (by have := lt_of_heap HY4.out; simp; omega) ?_
        intro v5 w5 hown5 hgrow hnear
        obtain ⟨a5, cap5, hv5, hm5⟩ := row_slice hown5
        rw [show 0 + 1 = 1 by omega] at hv5
        subst hv5
        have HBK : Hid (∀ j, j < w4.heap.size → (∀ i, (Value.slice a2 0 cap2).ownBlock = some i → j ≠ i) → w5.heap[j]? = w4.heap[j]?) := fun j hk hne => (hgrow.block j (by simp; omega) (fun e => hne j e.symm rfl)).trans (Below.heap_alloc _ _ _ hk)
        have HZ5 : w5.heap[w2.heap.size]? = some (.cells #[.int .i64 (ver + 1), .slice a2 0 cap2] 26 (0, 0)) := (HBK.out _ (lt_of_heap HZ4.out) (fun g e => by have := HLT.out g e; omega)).trans HZ4.out
        have HY5 : w5.heap[w.heap.size + 1 + 1]? = some (.cells #[.int .i64 0, .slice none 0 0] 26 (0, 0)) := (HBK.out _ (lt_of_heap HY4.out) (fun g e => by have := row_ge HR4.out g e; omega)).trans HY4.out
        have HR5 : Hid (Row w5 (w.heap.size + 3) (.slice a5 1 cap5) ([] ++ [⟨p, q⟩])) := by
          show World.ownsRow _ _ _ _ _ _ _
          rw [ecells_append, List.length_append]
          exact hown5
        have HB5 : Hid (Below w.heap.size w w5) := (HB4.out.alloc HB4.out.size _).grown hgrow (by have := HB4.out.size; simp; omega) (fun k e => by have := row_ge HR4.out k e; omega)
        have HN5 : Hid (∀ g, (Value.slice a5 1 cap5).ownBlock = some g → g ≠ w2.heap.size ∧ g ≠ w.heap.size + 1 + 1) := by
          intro g e
          have := row_ge HR5.out g e
          refine ⟨?_, by omega⟩
          rcases hnear with h | ⟨j, h, hj⟩
          · rw [h] at e; have := HLT.out g e; omega
          · rw [h] at e; cases e
            have := lt_of_heap HZ4.out
            simp at hj; omega
        have HY6 : (w5.setCell ⟨w2.heap.size, 1, none⟩ (.slice a5 1 cap5)).heap[w.heap.size + 1 + 1]? = some (.cells #[.int .i64 0, .slice none 0 0] 26 (0, 0)) := (heap_setCell_other _ ⟨w2.heap.size, 1, none⟩ _ _ (by show w.heap.size + 1 + 1 ≠ w2.heap.size; omega)).trans HY5
        have HY6' : Hid (_ = _) := HY6
        obtain ⟨g0, g1, g2, g3⟩ := agg2 HZ5
        obtain ⟨u0, u1, u2, u3⟩ := agg2 HY6
        clear hgrow hnear hown5 HBK HZ5 HY5 HY6 hm5 zz0 zz1 zf0 zf1 ee0 ee1)
      refine bodyPost_ret (res_grow _ (w.heap.size + 1 + 1) _ (ver + 1) a5 1 cap5 _ rfl rfl (set2_heap HY6'.out _ _)) rfl ?_
      refine ⟨⟨ver + 1, .slice a5 1 cap5, by rw [HG.out]; rfl, fun _ => ⟨rfl, ?_⟩, fun h => absurd HG.out h⟩, set2_below (HB5.out.setCell (p := ⟨w2.heap.size, 1, none⟩) (by show w.heap.size ≤ w2.heap.size; omega) _) _ (by omega) _ _⟩
      rw [HA.out]
      refine row_base (row_keep HR5.out (fun g e => (set2_other (HN5.out g e).2 _ _).trans (heap_setCell_other _ ⟨w2.heap.size, 1, none⟩ _ _ (HN5.out g e).1))) (by omega)
    · obtain ⟨k, hk⟩ : ∃ k, n = k + 1 := ⟨b.length, by rw [← hln]; simp⟩
      subst hk
      have hik : (k : Int) < (k : Int) + 1 := by omega
      obtain ⟨g, cap', hv2⟩ := row_some HR3.out (by omega)
      rw [hln] at hv2
      cases hv2
      have hbk : k < (b ++ [o]).length := by omega
      obtain ⟨r0, r1⟩ := HR3.out.ext k hbk
      have hgk : (b ++ [o])[k] = o := by
        have : k = b.length := by simp at hln; omega
        subst this; simp
      rw [hgk] at r0 r1
      obtain ⟨ee0, ee1, _, _⟩ := agg2 HE3.out
      obtain ⟨zz0, zz1, zf0, zf1⟩ := agg2 HZ3.out
      have hoo : Ok o := HL.out o (by simp)
      have hend := fun w => end_any o w hoo.small
      unfold Ok at hoo
      obtain ⟨op, ol⟩ := o
      simp only [Ext.agg] at hend
      dsimp only at hoo r0 r1
      go_wp2_with fail
      rw [← hw3]
      clear hw3
      have HS : w3.cell? ⟨w2.heap.size, 1, none⟩ = some (.slice (some ⟨g, 0, none⟩) (k + 1) cap2) ∧ w3.cell? ⟨g, k * 2, none⟩ = some (.int .i64 op) ∧ w3.cell? ⟨g, k * 2 + 1, none⟩ = some (.int .i64 ol) ∧ w3.cell? ⟨w.heap.size + 1, 0, none⟩ = some (.int .i64 p) := ⟨zz1, r0, r1, ee0⟩
      refine wp_region_held_drew (S := fun W => W.cell? ⟨w2.heap.size, 1, none⟩ = some (.slice (some ⟨g, 0, none⟩) (k + 1) cap2) ∧ W.cell? ⟨g, k * 2, none⟩ = some (.int .i64 op) ∧ W.cell? ⟨g, k * 2 + 1, none⟩ = some (.int .i64 ol) ∧ W.cell? ⟨w.heap.size + 1, 0, none⟩ = some (.int .i64 p)) (by kernel_rfl) (by exact HS) (fun hHeld => ?_)
      change wpAnyH _ _ _ _ _ 13 (Array.replicate 13 false) _ _
      refine wpAnyH_take (i := 0) (oi := _) (v := _) (by simp only [List.getElem?_toArray, List.getElem?_cons_zero]; rfl) (by kernel_rfl) (by kernel_rfl) (by kernel_rfl) (by exact fun _ _ _ h => h) (Or.inl ⟨by rfl, by intro w' hSw; (try dsimp only at hSw); first | (go_simp; done) | (go_simp; with_reducible rfl)⟩) hHeld ?_
      simp only [Act.put, List.setIfInBounds_toArray, List.set_cons_zero, List.set_cons_succ]
      refine wpAnyH_take (i := 1) (oi := _) (v := _) (by simp only [List.getElem?_toArray, List.getElem?_cons_succ, List.getElem?_cons_zero]; rfl) (by kernel_rfl) (by kernel_rfl) (by kernel_rfl) (by exact fun _ _ _ h => h) (Or.inl ⟨by rfl, by intro w' hSw; (try dsimp only at hSw); first | (go_simp; done) | (go_simp; with_reducible rfl)⟩) hHeld ?_
      simp only [Act.put, List.setIfInBounds_toArray, List.set_cons_zero, List.set_cons_succ]
      refine wpAnyH_take (i := 2) (oi := _) (v := _) (by simp only [List.getElem?_toArray, List.getElem?_cons_succ, List.getElem?_cons_zero]; rfl) (by kernel_rfl) (by kernel_rfl) (by kernel_rfl) (by exact fun _ _ _ h => h) (Or.inl ⟨by rfl, by intro w' hSw; (try dsimp only at hSw); first | (go_simp; done) | (go_simp; with_reducible rfl)⟩) hHeld ?_
      simp only [Act.put, List.setIfInBounds_toArray, List.set_cons_zero, List.set_cons_succ]
      refine wpAnyH_take (i := 3) (oi := _) (v := _) (by simp only [List.getElem?_toArray, List.getElem?_cons_succ, List.getElem?_cons_zero]; rfl) (by kernel_rfl) (by kernel_rfl) (by kernel_rfl) (by exact fun _ _ _ h => h) (Or.inl ⟨by rfl, by intro w' hSw; (try dsimp only at hSw); first | (go_simp; done) | (go_simp; with_reducible rfl)⟩) hHeld ?_
      simp only [Act.put, List.setIfInBounds_toArray, List.set_cons_zero, List.set_cons_succ]
      refine wpAnyH_take (i := 4) (oi := _) (v := _) (by simp only [List.getElem?_toArray, List.getElem?_cons_succ, List.getElem?_cons_zero]; rfl) (by kernel_rfl) (by kernel_rfl) (by kernel_rfl) (by exact fun _ _ _ h => h) (Or.inl ⟨by rfl, by intro w' hSw; (try dsimp only at hSw); first | (go_simp; done) | (go_simp; with_reducible rfl)⟩) hHeld ?_
      simp only [Act.put, List.setIfInBounds_toArray, List.set_cons_zero, List.set_cons_succ]
      refine wpAnyH_take (i := 5) (oi := _) (v := _) (by simp only [List.getElem?_toArray, List.getElem?_cons_succ, List.getElem?_cons_zero]; rfl) (by kernel_rfl) (by kernel_rfl) (by kernel_rfl) (by exact fun _ _ _ h => h) (Or.inl ⟨by rfl, by intro w' hSw; (try dsimp only at hSw); first | (go_simp; done) | (go_simp; with_reducible rfl)⟩) hHeld ?_
      simp only [Act.put, List.setIfInBounds_toArray, List.set_cons_zero, List.set_cons_succ]
      refine wpAnyH_take (i := 6) (oi := _) (v := _) (by simp only [List.getElem?_toArray, List.getElem?_cons_succ, List.getElem?_cons_zero]; rfl) (by kernel_rfl) (by kernel_rfl) (by kernel_rfl) (by exact fun _ _ _ h => h) (Or.inl ⟨by rfl, by intro w' hSw; (try dsimp only at hSw); first | (go_simp; done) | (go_simp; with_reducible rfl)⟩) hHeld ?_
      simp only [Act.put, List.setIfInBounds_toArray, List.set_cons_zero, List.set_cons_succ]
      refine wpAnyH_take (i := 7) (oi := _) (v := _) (by simp only [List.getElem?_toArray, List.getElem?_cons_succ, List.getElem?_cons_zero]; rfl) (by kernel_rfl) (by kernel_rfl) (by kernel_rfl) (by exact fun _ _ _ h => h) (Or.inl ⟨by rfl, by intro w' hSw; (try dsimp only at hSw); first | (go_simp; done) | (go_simp; with_reducible rfl)⟩) hHeld ?_
      simp only [Act.put, List.setIfInBounds_toArray, List.set_cons_zero, List.set_cons_succ]
      refine wpAnyH_take (i := 9) (oi := _) (v := _) (by simp only [List.getElem?_toArray, List.getElem?_cons_succ, List.getElem?_cons_zero]; rfl) (by kernel_rfl) (by kernel_rfl) (by kernel_rfl) (by exact fun _ _ _ h => h) (Or.inl ⟨by rfl, by intro w' hSw; (try dsimp only at hSw); first | (go_simp; done) | (go_simp; with_reducible rfl)⟩) hHeld ?_
      simp only [Act.put, List.setIfInBounds_toArray, List.set_cons_zero, List.set_cons_succ]
      refine wpAnyH_take (i := 10) (oi := _) (v := _) (by simp only [List.getElem?_toArray, List.getElem?_cons_succ, List.getElem?_cons_zero]; rfl) (by kernel_rfl) (by kernel_rfl) (by kernel_rfl) (by exact fun _ _ _ h => h) (Or.inl ⟨by rfl, by intro w' hSw; (try dsimp only at hSw); first | (go_simp; done) | (go_simp; with_reducible rfl)⟩) hHeld ?_
      simp only [Act.put, List.setIfInBounds_toArray, List.set_cons_zero, List.set_cons_succ]
      refine wpAnyH_ready (rs := [8]) (by kernel_rfl) (by simp) ?_
      refine AllReadyH.cons rfl (fun K hK => ?_) AllReadyH.nil
      go_simp
      go_wp2_with fail
      refine (hend _).mono ?_
      rintro r w4 ⟨rfl, hw4⟩
      have hb4 : Below w3.drew.heap.size w3.drew w4 := by rw [hw4]; exact (Below.refl _ _).alloc (Nat.le_refl _) _
      have HH4 : Hid (Below w3.drew.heap.size w3.drew w4) := hb4
      refine hK.out _ _ ⟨(hb4.cell (p := ⟨w2.heap.size, 1, none⟩) (lt_of_cell hHeld.1)).trans hHeld.1, (hb4.cell (p := ⟨g, k * 2, none⟩) (lt_of_cell hHeld.2.1)).trans hHeld.2.1, (hb4.cell (p := ⟨g, k * 2 + 1, none⟩) (lt_of_cell hHeld.2.2.1)).trans hHeld.2.2.1, (hb4.cell (p := ⟨w.heap.size + 1, 0, none⟩) (lt_of_cell hHeld.2.2.2)).trans hHeld.2.2.2⟩ (fun hHeld => ?_)
      clear hK K hw4 hb4
      refine wpAnyH_take (i := 11) (oi := _) (v := _) (by simp only [List.getElem?_toArray, List.getElem?_cons_succ, List.getElem?_cons_zero]; rfl) (by kernel_rfl) (by kernel_rfl) (by kernel_rfl) (by exact fun _ _ _ h => h) (Or.inl ⟨by rfl, by intro w' hSw; (try dsimp only at hSw); first | (go_simp; done) | (go_simp; with_reducible rfl)⟩) hHeld ?_
      simp only [Act.put, List.setIfInBounds_toArray, List.set_cons_zero, List.set_cons_succ]
      refine wpAnyH_take (i := 12) (oi := _) (v := _) (by simp only [List.getElem?_toArray, List.getElem?_cons_succ, List.getElem?_cons_zero]; rfl) (by kernel_rfl) (by kernel_rfl) (by kernel_rfl) (by exact fun _ _ _ h => h) (Or.inl ⟨by rfl, by intro w' hSw; (try dsimp only at hSw); first | (go_simp; done) | (go_simp; with_reducible rfl)⟩) hHeld ?_
      simp only [Act.put, List.setIfInBounds_toArray, List.set_cons_zero, List.set_cons_succ]
      refine wpAnyH_done (by kernel_rfl) ?_ _
      have HZ4 : Hid (w4.heap[w2.heap.size]? = some (.cells #[.int .i64 (ver + 1), .slice (some ⟨g, 0, none⟩) (k + 1) cap2] 26 (0, 0))) := (HH4.out.block _ (lt_of_heap HZ3.out)).trans HZ3.out
      have HE4 : Hid (w4.heap[w.heap.size + 1]? = some (.cells #[.int .i64 p, .int .i64 q] 51 (0, 0))) := (HH4.out.block _ (lt_of_heap HE3.out)).trans HE3.out
      have HY4 : Hid (w4.heap[w.heap.size + 2]? = some (.cells #[.int .i64 0, .slice none 0 0] 26 (0, 0))) := (HH4.out.block _ (lt_of_heap HY3.out)).trans HY3.out
      have HR4 : Hid (Row w4 (w.heap.size + 3) (.slice (some ⟨g, 0, none⟩) (k + 1) cap2) (b ++ [⟨op, ol⟩])) := row_below (World.ownsRow.drew HR3.out) HH4.out (Nat.le_refl _)
      have HB4 : Hid (Below w.heap.size w w4) := HB3.out.drew.trans (HH4.out.mono HB3.out.drew.size)
      clear HZ3 HE3 HY3 HR3 HB3 HH4 ee0 ee1 zz0 zz1 zf0 zf1 r0 r1 hHeld HS hend
      obtain ⟨zz0, zz1, zf0, zf1⟩ := agg2 HZ4.out
      obtain ⟨ee0, ee1, _, _⟩ := agg2 HE4.out
      obtain ⟨r0, r1⟩ := HR4.out.ext k hbk
      rw [hgk] at r0 r1
      cases hj : (op + ol == p)
      · have HA : Hid (appF (b ++ [⟨op, ol⟩]) ⟨p, q⟩ = b ++ [⟨op, ol⟩] ++ [⟨p, q⟩]) := appF_new _ _ _ (by simpa using hj)
        by_cases h36 : k + 1 < 36
        · have HG : Hid (growE (b ++ [⟨op, ol⟩]) ⟨p, q⟩ = 0) := by show _ = _; unfold growE; rw [hm, if_pos rfl, if_pos (.inr (by rw [hln]; omega))]
          have h36' : decide (36 ≤ (k : Int) + 1) = false := by simp; omega
          go_wp2_with (
            at_builtin
            refine wpList_append_near _ rfl _ _ 24 rfl (w.heap.size + 3) 51 i0 _ 2 16 Tryz.underlying24 hi hz0 hz1 hz2 rfl (by decide) (.slice (some ⟨g, 0, none⟩) (k + 1) cap2) (b ++ [(⟨op, ol⟩ : Ext)]).length (ecells (b ++ [⟨op, ol⟩])) rfl (World.ownsRow.alloc HR4.out _) ⟨w4.heap.size, 0, none⟩ 1 1 [.int .i64 p, .int .i64 q] rfl rfl (cells_new2 _ _ _ _) (by intro u hu; simp only [List.mem_cons, List.not_mem_nil, or_false] at hu; rcases hu with rfl | rfl <;> rfl) (by unfold maxLen; omega) (by omega) (by have := lt_of_heap HY4.out; simp; omega) ?_
            intro v5 w5 hown5 hgrow hnear
            obtain ⟨a5, cap5, hv5, hm5⟩ := row_slice hown5
            rw [show (b ++ [(⟨op, ol⟩ : Ext)]).length + 1 = (k + 1 + 1) by omega] at hv5
            subst hv5
            have HBK : Hid (∀ j, j < w4.heap.size → (∀ i, (Value.slice (some ⟨g, 0, none⟩) (k + 1) cap2).ownBlock = some i → j ≠ i) → w5.heap[j]? = w4.heap[j]?) := fun j hk hne => (hgrow.block j (by simp; omega) (fun e => hne j e.symm rfl)).trans (Below.heap_alloc _ _ _ hk)
            have HZ5 : w5.heap[w2.heap.size]? = some (.cells #[.int .i64 (ver + 1), .slice (some ⟨g, 0, none⟩) (k + 1) cap2] 26 (0, 0)) := (HBK.out _ (lt_of_heap HZ4.out) (fun g e => by have := HLT.out g e; omega)).trans HZ4.out
            have HY5 : w5.heap[w.heap.size + 1 + 1]? = some (.cells #[.int .i64 0, .slice none 0 0] 26 (0, 0)) := (HBK.out _ (lt_of_heap HY4.out) (fun g e => by have := row_ge HR4.out g e; omega)).trans HY4.out
            have HR5 : Hid (Row w5 (w.heap.size + 3) (.slice a5 (k + 1 + 1) cap5) (b ++ [⟨op, ol⟩] ++ [⟨p, q⟩])) := by
              show World.ownsRow _ _ _ _ _ _ _
              rw [ecells_append, List.length_append]
              exact hown5
            have HB5 : Hid (Below w.heap.size w w5) := (HB4.out.alloc HB4.out.size _).grown hgrow (by have := HB4.out.size; simp; omega) (fun k e => by have := row_ge HR4.out k e; omega)
            have HN5 : Hid (∀ i, (Value.slice a5 (k + 1 + 1) cap5).ownBlock = some i → i ≠ w2.heap.size ∧ i ≠ w.heap.size + 1 + 1) := by
              intro g e
              have := row_ge HR5.out g e
              refine ⟨?_, by omega⟩
              rcases hnear with h | ⟨j, h, hj⟩
              · rw [h] at e; have := HLT.out g e; omega
              · rw [h] at e; cases e
                have := lt_of_heap HZ4.out
                simp at hj; omega
            have HY6 : (w5.setCell ⟨w2.heap.size, 1, none⟩ (.slice a5 (k + 1 + 1) cap5)).heap[w.heap.size + 1 + 1]? = some (.cells #[.int .i64 0, .slice none 0 0] 26 (0, 0)) := (heap_setCell_other _ ⟨w2.heap.size, 1, none⟩ _ _ (by show w.heap.size + 1 + 1 ≠ w2.heap.size; omega)).trans HY5
            have HY6' : Hid (_ = _) := HY6
            obtain ⟨g0, g1, g2, g3⟩ := agg2 HZ5
            obtain ⟨u0, u1, u2, u3⟩ := agg2 HY6
            clear hgrow hnear hown5 HBK HZ5 HY5 HY6 hm5 zz0 zz1 zf0 zf1 ee0 ee1)
          refine bodyPost_ret (res_grow _ (w.heap.size + 1 + 1) _ (ver + 1) a5 (k + 1 + 1) cap5 _ rfl rfl (set2_heap HY6'.out _ _)) rfl ?_
          refine ⟨⟨ver + 1, .slice a5 (k + 1 + 1) cap5, by rw [HG.out]; rfl, fun _ => ⟨rfl, ?_⟩, fun h => absurd HG.out h⟩, set2_below (HB5.out.setCell (p := ⟨w2.heap.size, 1, none⟩) (by show w.heap.size ≤ w2.heap.size; omega) _) _ (by omega) _ _⟩
          rw [HA.out]
          refine row_base (row_keep HR5.out (fun g e => (set2_other (HN5.out g e).2 _ _).trans (heap_setCell_other _ ⟨w2.heap.size, 1, none⟩ _ _ (HN5.out g e).1))) (by omega)
        · have HG : Hid (growE (b ++ [⟨op, ol⟩]) ⟨p, q⟩ = 19) := by show _ = _; unfold growE; rw [hm, if_pos rfl, if_neg]; rw [joinsF_last, hln]; dsimp only; rw [hj]; simp; omega
          have h36' : (36 : Int) ≤ (k : Int) + 1 := by omega
          have HY4' : w4.heap[w.heap.size + 1 + 1]? = some (.cells #[.int .i64 0, .slice none 0 0] 26 (0, 0)) := HY4.out
          obtain ⟨u0, u1, u2, u3⟩ := agg2 HY4'
          go_wp2
          refine bodyPost_ret (res_grow _ (w.heap.size + 1 + 1) _ 0 none 0 0 _ rfl rfl (set2_heap HY4.out _ _)) rfl ?_
          refine ⟨⟨0, .slice none 0 0, ?_, fun h => ?_, fun _ => ⟨rfl, rfl⟩⟩, set2_below HB4.out _ (by omega) _ _⟩
          · rw [HG.out]; rfl
          · rw [HG.out] at h; cases h
      · have HA : Hid (appF (b ++ [⟨op, ol⟩]) ⟨p, q⟩ = b ++ [⟨op, ol + q⟩]) := appF_join _ _ _ (by simpa using hj)
        have HG : Hid (growE (b ++ [⟨op, ol⟩]) ⟨p, q⟩ = 0) := by show _ = _; unfold growE; rw [hm, if_pos rfl, if_pos (.inl (by rw [joinsF_last]; exact hj))]
        have hpq : Ok ⟨p, q⟩ := (belowF_ok _).1 (by unfold mayF at hm; simp only [Bool.and_eq_true] at hm; exact hm.1)
        unfold Ok at hpq
        dsimp only at hpq
        have rf : w4.frozen? ⟨g, k * 2 + 1, none⟩ = false := World.ownsRow.frozenAt (n := k + 1) (by have := HR4.out; unfold Row at this; rw [hln] at this; exact this) _
        clear hHeld
        go_wp2_with fail
        go_region
        obtain ⟨w5, hw5⟩ : ∃ w5, w5 = (w4.setCell ⟨g, k * 2 + 1, none⟩ (.int .i64 (ol + q))).drew := ⟨_, rfl⟩
        rw [← hw5]
        have hg1 : g ≠ w2.heap.size := by have := HLT.out g rfl; omega
        have hg2 : g ≠ w.heap.size + 1 + 1 := by have := row_ge HR4.out g rfl; omega
        have HZ5 : w5.heap[w2.heap.size]? = some (.cells #[.int .i64 (ver + 1), .slice (some ⟨g, 0, none⟩) (k + 1) cap2] 26 (0, 0)) := by rw [hw5]; exact (heap_setCell_other _ ⟨g, k * 2 + 1, none⟩ _ _ (by show w2.heap.size ≠ g; omega)).trans HZ4.out
        have HY5 : w5.heap[w.heap.size + 1 + 1]? = some (.cells #[.int .i64 0, .slice none 0 0] 26 (0, 0)) := by rw [hw5]; exact (heap_setCell_other _ ⟨g, k * 2 + 1, none⟩ _ _ (by show w.heap.size + 1 + 1 ≠ g; omega)).trans HY4.out
        have HY5' : Hid (_ = _) := HY5
        have HR5 : Hid (Row w5 (w.heap.size + 3) (.slice (some ⟨g, 0, none⟩) (k + 1) cap2) (b ++ [⟨op, ol + q⟩])) := by
          have h4 := HR4.out
          unfold Row at h4
          rw [hln] at h4
          have h5 := World.ownsRow.drew (World.ownsRow.stored h4 (k * 2 + 1) (.int .i64 (ol + q))).1
          rw [hw5]
          show World.ownsRow _ _ _ _ _ _ _
          have hkb : k = b.length := by simp at hln; omega
          rw [show (b ++ [(⟨op, ol + q⟩ : Ext)]).length = k + 1 by simp; omega, ← ecells_set_len b ⟨op, ol⟩ (ol + q), ← hkb]
          exact h5
        have HB5 : Hid (Below w.heap.size w w5) := by
          rw [hw5]
          exact (HB4.out.setCell (p := ⟨g, k * 2 + 1, none⟩) (by show w.heap.size ≤ g; have := row_ge HR4.out g rfl; omega) _).drew
        obtain ⟨g0, g1, g2, g3⟩ := agg2 HZ5
        obtain ⟨u0, u1, u2, u3⟩ := agg2 HY5
        clear hw5 HZ5 HY5 rf r0 r1 zz0 zz1 zf0 zf1 ee0 ee1
        go_wp2
        refine bodyPost_ret (res_grow _ (w.heap.size + 1 + 1) _ (ver + 1) (some ⟨g, 0, none⟩) (k + 1) cap2 _ rfl rfl (set2_heap HY5'.out _ _)) rfl ?_
        refine ⟨⟨ver + 1, .slice (some ⟨g, 0, none⟩) (k + 1) cap2, by rw [HG.out]; rfl, fun _ => ⟨rfl, ?_⟩, fun h => absurd HG.out h⟩, set2_below HB5.out _ (by omega) _ _⟩
        rw [HA.out]
        exact row_base (row_keep HR5.out (fun g' e => set2_other (by cases e; exact hg2) _ _)) (by omega)

end Go.Proofs.YtkfphmhnaelflacGreatDoor.Id
