/-
  The program's Right of any inode. No condition.
-/
import Derived.Test.YtkfphmhnaelflacGreatDoorIdP
namespace Go.Proofs.YtkfphmhnaelflacGreatDoor.Id
open Go.ChangeShapes Go.WideShapes Go.ChangeAt Go.RowKit Go.Proofs.Fa

/-- The first extents of a row. -/
theorem ecells_take (l : List Ext) (k : Nat) : (ecells l).take (k * 2) = ecells (l.take k) := by
  induction l generalizing k with
  | nil => simp [ecells]
  | cons e r ih =>
    cases k with
    | zero => simp [ecells]
    | succ k =>
      rw [show (k + 1) * 2 = k * 2 + 2 by omega]
      simp only [ecells, List.take_succ_cons, ih]
theorem row_take {w : World} {B : Nat} {l : List Ext} {g n cap k : Nat} (h : Row w B (.slice (some ⟨g, 0, none⟩) n cap) l) (hk : k ≤ l.length) : Row w B (.slice (some ⟨g, 0, none⟩) k cap) (l.take k) := by
  have hl : (l.take k).length = k := by rw [List.length_take]; omega
  refine ⟨by rw [ecells_length], ?_⟩
  rcases h.2 with ⟨hn, _⟩ | ⟨g', cap', cur, hv, hb, hg, hnc, hcm, hsz, hx⟩
  · cases hn
  · cases hv
    refine .inr ⟨g, cap, cur, by rw [hl], hb, hg, by omega, hcm, hsz, ?_⟩
    rw [hl, ← ecells_take, ← hx, List.take_take]
    congr 1
    omega

/-- Do the extents lie below a bound, and apart? -/
def fitB (s : Int) (l : List Ext) (k : Nat) : Bool := (List.range k).all fun i => match l[i]? with
  | some e => belowF e s && !((l.take i).any (meetsF e))
  | none => true
theorem fitB_zero (s : Int) (l : List Ext) : fitB s l 0 = true := rfl
theorem fitB_succ (s : Int) (l : List Ext) (k : Nat) (hk : k < l.length) : fitB s l (k + 1) = (fitB s l k && (belowF l[k] s && !((l.take k).any (meetsF l[k])))) := by
  unfold fitB
  rw [List.range_succ, List.all_append]
  simp [hk]
theorem fitB_le {s : Int} {l : List Ext} {k : Nat} (h : fitB s l k = false) (n : Nat) (hn : k ≤ n) : fitB s l n = false := by
  unfold fitB at *
  rw [List.all_eq_false] at *
  obtain ⟨x, hx, hx'⟩ := h
  exact ⟨x, List.mem_range.2 (by have := List.mem_range.1 hx; omega), hx'⟩
theorem fitB_at {s : Int} {l : List Ext} {k : Nat} (h : fitB s l k = true) (i : Nat) (hi : i < k) (hil : i < l.length) : belowF l[i] s = true ∧ (l.take i).any (meetsF l[i]) = false := by
  unfold fitB at h
  rw [List.all_eq_true] at h
  have := h i (List.mem_range.2 hi)
  rw [List.getElem?_eq_getElem hil] at this
  simpa using this
theorem below_ok {e : Ext} {s : Int} (h : belowF e s = true) (hs : s ≤ 2048) : Ok e := by
  unfold belowF at h
  simp only [Bool.and_eq_true, decide_eq_true_eq] at h
  unfold Ok; omega
theorem fitB_ok {s : Int} {l : List Ext} {k : Nat} (h : fitB s l k = true) (hs : s ≤ 2048) (hk : k ≤ l.length) : OkL (l.take k) := by
  intro e he
  obtain ⟨j, hj, rfl⟩ := List.getElem_of_mem he
  rw [List.length_take] at hj
  rw [List.getElem_take]
  exact below_ok (fitB_at h j (by omega) (by omega)).1 hs
/-- Which inodes are right. -/
def rightB (ver : Int) (l : List Ext) (s : Int) : Bool := decide (1 ≤ s) && (decide (s ≤ 2048) && (decide (0 ≤ ver) && (decide (ver < 281474976710656) && (decide (l.length ≤ 36) && fitB s l l.length))))
theorem fitB_apart {l : List Ext} (ha : Apart l) (ho : OkL l) : ∀ k, k ≤ l.length → fitB 2048 l k = true := by
  intro k
  induction k with
  | zero => intro _; rfl
  | succ k ih =>
    intro hk
    rw [fitB_succ _ _ _ (by omega), ih (by omega), (belowF_ok _).2 (ho.at k (by omega))]
    have h1 : Apart (l.take (k + 1)) := by
      clear ih
      induction l generalizing k with
      | nil => simp [Apart]
      | cons e r ih2 =>
        obtain ⟨h1, h2⟩ := ha
        rw [List.take_succ_cons]
        refine ⟨(any_meets _ _).2 (fun x hx => (any_meets _ _).1 h1 x (List.mem_of_mem_take hx)), ?_⟩
        cases k with
        | zero => simp [Apart]
        | succ k => exact ih2 h2 (fun x hx => ho x (List.mem_cons_of_mem _ hx)) k (by simpa using hk)
    rw [List.take_succ_eq_append_getElem (by omega), apart_snoc] at h1
    rw [h1.2]
    rfl
theorem rightB_yes {ver : Int} {l : List Ext} (hv : 0 ≤ ver ∧ ver < 281474976710656) (hn : l.length ≤ 36) (ha : Apart l) (ho : OkL l) : rightB ver l 2048 = true := by
  unfold rightB
  rw [fitB_apart ha ho _ (Nat.le_refl _)]
  simp [hv.1, hv.2, hn]

variable {w : World} {B : Nat}
set_option maxRecDepth 100000
set_option maxHeartbeats 1000000

theorem right_any (ver : Int) (v : Value) (l : List Ext) (s : Int) (hr : Row w B v l) (hn : l.length ≤ 1000) (hwf : ∀ e ∈ l, -9223372036854775808 ≤ e.pos ∧ e.pos ≤ 9223372036854775807) :
    Calls Tryz.prog 10 #[ino ver v, .int .i64 s] w fun r w' => r = .returned (.bool (rightB ver l s)) ∧ Below w.heap.size w w' := by
  obtain ⟨n, hln⟩ : ∃ n, l.length = n := ⟨_, rfl⟩
  obtain ⟨a, cap, hv0, hmx⟩ := row_slice hr
  rw [hln] at hv0 hmx hn
  subst hv0
  have HR : Hid (Row w B (.slice a n cap) l) := hr
  have HW : Hid (∀ e ∈ l, -9223372036854775808 ≤ e.pos ∧ e.pos ≤ 9223372036854775807) := hwf
  have HX : Hid (rightB ver l s = (decide (1 ≤ s) && (decide (s ≤ 2048) && (decide (0 ≤ ver) && (decide (ver < 281474976710656) && (decide (n ≤ 36) && fitB s l n)))))) := by show _ = _; rw [← hln]; rfl
  clear hr hwf
  simp only [ino]
  have HB0 : Hid (Below w.heap.size w (w.alloc (Obj.cells #[.int .i64 ver, .slice a n cap] 26))) := (Below.refl _ _).alloc (Nat.le_refl _) _
  by_cases h1 : 1 ≤ s
  · by_cases h2 : s ≤ 2048
    · by_cases h3 : 0 ≤ ver
      · by_cases h4 : ver < 281474976710656
        · by_cases h5 : n ≤ 36
          · have HF : Hid (rightB ver l s = fitB s l n) := by show _ = _; rw [HX.out]; simp [h1, h2, h3, h4, h5]
            obtain ⟨w0, hw0⟩ : ∃ w0, w0 = w.alloc (Obj.cells #[.int .i64 ver, .slice a n cap] 26) := ⟨_, rfl⟩
            rw [← hw0] at HB0
            have HX0 : Hid (w0.heap[w.heap.size]? = some (.cells #[.int .i64 ver, .slice a n cap] 26 (0, 0))) := by rw [hw0]; exact heap_alloc_new _ _
            clear HX
            go_enter Tryz.func10, Tryz.ntmps10
            go_wp2_with fail
            rw [← hw0]
            clear hw0
            go_loopw [30] (fun i wr => ∃ k : Nat, k ≤ n ∧ i = .int .i64 k ∧ fitB s l k = true ∧ wr.heap[w.heap.size]? = some (.cells #[.int .i64 ver, .slice a n cap] 26 (0, 0)) ∧ Below w.heap.size w wr) (fun i _ => n - (intOf i).toNat)
            case atStart => exact ⟨0, Nat.zero_le _, rfl, rfl, HX0.out, HB0.out⟩
            case round =>
              clear HX0 HB0
              obtain ⟨k, hk, rfl, hfit, hX, hB⟩ := hrel
              have HFIT : Hid (fitB s l k = true) := hfit
              have HX : Hid (wr.heap[w.heap.size]? = some (.cells #[.int .i64 ver, .slice a n cap] 26 (0, 0))) := hX
              have HB : Hid (Below w.heap.size w wr) := hB
              clear hfit hX hB
              by_cases hlt : k < n
              · have hRk : Row wr B _ l := row_below HR.out HB.out (Nat.le_refl _)
                obtain ⟨g, cap', he⟩ := row_some hRk (by omega)
                rw [hln] at he
                cases he
                obtain ⟨e0, e1⟩ := hRk.ext k (by omega)
                have hcap : n ≤ cap ∧ cap ≤ maxLen := by
                  rcases hRk.2 with ⟨hx, _⟩ | ⟨g', cap', cur, hx, _, _, h6, h7, _⟩
                  · cases hx
                  · cases hx; omega
                have hkc : (k : Int) ≤ cap := by omega
                have hwk := HW.out _ (List.getElem_mem (show k < l.length by omega))
                have HS1 : Hid (fitB s l (k + 1) = (fitB s l k && (belowF l[k] s && !((l.take k).any (meetsF l[k]))))) := fitB_succ s l k (by omega)
                have hbel := fun w' => below_any l[k] s w' hwk ⟨by omega, by omega⟩
                have HCON : Hid (∀ w', Below w.heap.size w w' → Ok l[k] → Calls Tryz.prog 26 #[.slice (some ⟨g, 0, none⟩) k cap, .func (.func 27) #[l[k].agg] #[]] w' fun r w'' => r = .returned (.bool ((l.take k).any (meetsF l[k]))) ∧ Below w'.heap.size w' w'') := fun w' hb' hok =>
                  contains_any (w := w') (B := B) _ (l.take k) l[k] (row_take (row_below HR.out hb' (Nat.le_refl _)) (by omega)) (by rw [List.length_take]; omega) (fitB_ok HFIT.out h2 (by omega)) hok
                have hokk : belowF l[k] s = true → Ok l[k] := fun h => below_ok h h2
                clear hRk
                generalize (l.take k).any (meetsF l[k]) = anyk at *
                generalize l[k] = y at *
                obtain ⟨yp, yl⟩ := y
                simp only [Ext.agg] at hbel HCON
                dsimp only at e0 e1 hwk hbel
                obtain ⟨w1, hw1⟩ : ∃ w1, w1 = wr.alloc (Obj.cells #[.int .i64 yp, .int .i64 yl] 51) := ⟨_, rfl⟩
                have HY1 : w1.heap[wr.heap.size]? = some (.cells #[.int .i64 yp, .int .i64 yl] 51 (0, 0)) := by rw [hw1]; exact heap_alloc_new _ _
                have HX1 : w1.heap[w.heap.size]? = some (.cells #[.int .i64 ver, .slice (some ⟨g, 0, none⟩) n cap] 26 (0, 0)) := by rw [hw1]; exact (Below.heap_alloc _ _ _ (lt_of_heap HX.out)).trans HX.out
                have HB1 : Hid (Below w.heap.size w w1) := by rw [hw1]; exact HB.out.alloc HB.out.size _
                obtain ⟨y0, y1, _, _⟩ := agg2 HY1
                obtain ⟨x0, x1, _, _⟩ := agg2 HX1
                have HXX : Hid (w1.heap[w.heap.size]? = some (.cells #[.int .i64 ver, .slice (some ⟨g, 0, none⟩) n cap] 26 (0, 0))) := HX1
                clear HY1 HX1
                cases hbe : belowF ⟨yp, yl⟩ s
                · simp only [hbe] at hbel
                  rw [hbe] at HS1
                  have HF2 : Hid (fitB s l n = false) := fitB_le (k := k + 1) (by rw [HS1.out, Bool.false_and, Bool.and_false]) n (by omega)
                  clear HS1 HCON hokk
                  go_wp2_with fail
                  rw [← hw1]
                  clear hw1
                  refine wp_region_held_drew (S := fun W => W.cell? ⟨wr.heap.size, 0, none⟩ = some (.int .i64 yp) ∧ W.cell? ⟨wr.heap.size, 1, none⟩ = some (.int .i64 yl) ∧ W.cell? ⟨w.heap.size, 1, none⟩ = some (.slice (some ⟨g, 0, none⟩) n cap)) (by kernel_rfl) (by exact ⟨y0, y1, x1⟩) (fun hHeld => ?_)
                  change wpAnyH _ _ _ _ _ 13 (Array.replicate 13 false) _ _
                  refine wpAnyH_take (i := 0) (oi := _) (v := _) (by simp only [List.getElem?_toArray, List.getElem?_cons_zero]; rfl) (by kernel_rfl) (by kernel_rfl) (by kernel_rfl) (by exact fun _ _ _ h => h) (Or.inl ⟨by rfl, by intro w' hSw; (try dsimp only at hSw); first | (go_simp; done) | (go_simp; with_reducible rfl)⟩) hHeld ?_
                  simp only [Act.put, List.setIfInBounds_toArray, List.set_cons_zero, List.set_cons_succ]
                  refine wpAnyH_take (i := 1) (oi := _) (v := _) (by simp only [List.getElem?_toArray, List.getElem?_cons_succ, List.getElem?_cons_zero]; rfl) (by kernel_rfl) (by kernel_rfl) (by kernel_rfl) (by exact fun _ _ _ h => h) (Or.inl ⟨by rfl, by intro w' hSw; (try dsimp only at hSw); first | (go_simp; done) | (go_simp; with_reducible rfl)⟩) hHeld ?_
                  simp only [Act.put, List.setIfInBounds_toArray, List.set_cons_zero, List.set_cons_succ]
                  refine wpAnyH_ready (rs := [2]) (by kernel_rfl) (by simp) ?_
                  refine AllReadyH.cons rfl (fun K hK => ?_) AllReadyH.nil
                  go_simp
                  go_wp2_with fail
                  refine (hbel _).mono ?_
                  rintro r w2 ⟨rfl, hb2⟩
                  have HB2 : Hid (Below w.heap.size w w2) := HB1.out.drew.trans (hb2.mono HB1.out.drew.size)
                  refine hK.out _ _ ⟨(hb2.cell (p := ⟨wr.heap.size, 0, none⟩) (lt_of_cell hHeld.1)).trans hHeld.1, (hb2.cell (p := ⟨wr.heap.size, 1, none⟩) (lt_of_cell hHeld.2.1)).trans hHeld.2.1, (hb2.cell (p := ⟨w.heap.size, 1, none⟩) (lt_of_cell hHeld.2.2)).trans hHeld.2.2⟩ (fun hHeld => ?_)
                  clear hK K hb2
                  refine wpAnyH_take (i := 3) (oi := _) (v := _) (by simp only [List.getElem?_toArray, List.getElem?_cons_succ, List.getElem?_cons_zero]; rfl) (by kernel_rfl) (by kernel_rfl) (by kernel_rfl) (by exact fun _ _ _ h => h) (Or.inl ⟨by rfl, by intro w' hSw; (try dsimp only at hSw); first | (go_simp; done) | (go_simp; with_reducible rfl)⟩) hHeld ?_
                  simp only [Act.put, List.setIfInBounds_toArray, List.set_cons_zero, List.set_cons_succ]
                  refine wpAnyH_take (i := 4) (oi := _) (v := _) (by simp only [List.getElem?_toArray, List.getElem?_cons_succ, List.getElem?_cons_zero]; rfl) (by kernel_rfl) (by kernel_rfl) (by kernel_rfl) (by exact fun _ _ _ h => h) (Or.inl ⟨by rfl, by intro w' hSw; (try dsimp only at hSw); first | (go_simp; done) | (go_simp; with_reducible rfl)⟩) hHeld ?_
                  simp only [Act.put, List.setIfInBounds_toArray, List.set_cons_zero, List.set_cons_succ]
                  refine wpAnyH_take (i := 5) (oi := _) (v := undef) (by simp only [List.getElem?_toArray, List.getElem?_cons_succ, List.getElem?_cons_zero]; rfl) (by kernel_rfl) (by kernel_rfl) (by kernel_rfl) (by exact fun _ _ _ h => h) (Or.inr ⟨by rfl, rfl⟩) hHeld ?_
                  simp only [Act.put, List.setIfInBounds_toArray, List.set_cons_zero, List.set_cons_succ]
                  refine wpAnyH_take (i := 6) (oi := _) (v := undef) (by simp only [List.getElem?_toArray, List.getElem?_cons_succ, List.getElem?_cons_zero]; rfl) (by kernel_rfl) (by kernel_rfl) (by kernel_rfl) (by exact fun _ _ _ h => h) (Or.inr ⟨by rfl, rfl⟩) hHeld ?_
                  simp only [Act.put, List.setIfInBounds_toArray, List.set_cons_zero, List.set_cons_succ]
                  refine wpAnyH_take (i := 7) (oi := _) (v := undef) (by simp only [List.getElem?_toArray, List.getElem?_cons_succ, List.getElem?_cons_zero]; rfl) (by kernel_rfl) (by kernel_rfl) (by kernel_rfl) (by exact fun _ _ _ h => h) (Or.inr ⟨by rfl, rfl⟩) hHeld ?_
                  simp only [Act.put, List.setIfInBounds_toArray, List.set_cons_zero, List.set_cons_succ]
                  refine wpAnyH_take (i := 8) (oi := _) (v := undef) (by simp only [List.getElem?_toArray, List.getElem?_cons_succ, List.getElem?_cons_zero]; rfl) (by kernel_rfl) (by kernel_rfl) (by kernel_rfl) (by exact fun _ _ _ h => h) (Or.inr ⟨by rfl, rfl⟩) hHeld ?_
                  simp only [Act.put, List.setIfInBounds_toArray, List.set_cons_zero, List.set_cons_succ]
                  refine wpAnyH_take (i := 9) (oi := _) (v := undef) (by simp only [List.getElem?_toArray, List.getElem?_cons_succ, List.getElem?_cons_zero]; rfl) (by kernel_rfl) (by kernel_rfl) (by kernel_rfl) (by exact fun _ _ _ h => h) (Or.inr ⟨by rfl, rfl⟩) hHeld ?_
                  simp only [Act.put, List.setIfInBounds_toArray, List.set_cons_zero, List.set_cons_succ]
                  refine wpAnyH_take (i := 10) (oi := _) (v := undef) (by simp only [List.getElem?_toArray, List.getElem?_cons_succ, List.getElem?_cons_zero]; rfl) (by kernel_rfl) (by kernel_rfl) (by kernel_rfl) (by exact fun _ _ _ h => h) (Or.inr ⟨by rfl, rfl⟩) hHeld ?_
                  simp only [Act.put, List.setIfInBounds_toArray, List.set_cons_zero, List.set_cons_succ]
                  refine wpAnyH_take (i := 11) (oi := _) (v := undef) (by simp only [List.getElem?_toArray, List.getElem?_cons_succ, List.getElem?_cons_zero]; rfl) (by kernel_rfl) (by kernel_rfl) (by kernel_rfl) (by exact fun _ _ _ h => h) (Or.inr ⟨by rfl, rfl⟩) hHeld ?_
                  simp only [Act.put, List.setIfInBounds_toArray, List.set_cons_zero, List.set_cons_succ]
                  refine wpAnyH_take (i := 12) (oi := _) (v := _) (by simp only [List.getElem?_toArray, List.getElem?_cons_succ, List.getElem?_cons_zero]; rfl) (by kernel_rfl) (by kernel_rfl) (by kernel_rfl) (by exact fun _ _ _ h => h) (Or.inl ⟨by rfl, by intro w' hSw; (try dsimp only at hSw); first | (go_simp; done) | (go_simp; with_reducible rfl)⟩) hHeld ?_
                  simp only [Act.put, List.setIfInBounds_toArray, List.set_cons_zero, List.set_cons_succ]
                  refine wpAnyH_done (by kernel_rfl) ?_ _
                  go_wp2
                  go_ret
                  exact ⟨by rw [HF.out, HF2.out]; rfl, HB2.out⟩
                · simp only [hbe] at hbel
                  rw [hbe] at HS1
                  have hok := hokk hbe
                  have HC2 : Hid (∀ w', Below w.heap.size w w' → _) := fun w' hb' => HCON.out w' hb' hok
                  clear hokk HCON hbe
                  go_wp2_with fail
                  rw [← hw1]
                  clear hw1
                  refine wp_region_held_drew (S := fun W => W.cell? ⟨wr.heap.size, 0, none⟩ = some (.int .i64 yp) ∧ W.cell? ⟨wr.heap.size, 1, none⟩ = some (.int .i64 yl) ∧ W.cell? ⟨w.heap.size, 1, none⟩ = some (.slice (some ⟨g, 0, none⟩) n cap)) (by kernel_rfl) (by exact ⟨y0, y1, x1⟩) (fun hHeld => ?_)
                  change wpAnyH _ _ _ _ _ 13 (Array.replicate 13 false) _ _
                  refine wpAnyH_take (i := 0) (oi := _) (v := _) (by simp only [List.getElem?_toArray, List.getElem?_cons_zero]; rfl) (by kernel_rfl) (by kernel_rfl) (by kernel_rfl) (by exact fun _ _ _ h => h) (Or.inl ⟨by rfl, by intro w' hSw; (try dsimp only at hSw); first | (go_simp; done) | (go_simp; with_reducible rfl)⟩) hHeld ?_
                  simp only [Act.put, List.setIfInBounds_toArray, List.set_cons_zero, List.set_cons_succ]
                  refine wpAnyH_take (i := 1) (oi := _) (v := _) (by simp only [List.getElem?_toArray, List.getElem?_cons_succ, List.getElem?_cons_zero]; rfl) (by kernel_rfl) (by kernel_rfl) (by kernel_rfl) (by exact fun _ _ _ h => h) (Or.inl ⟨by rfl, by intro w' hSw; (try dsimp only at hSw); first | (go_simp; done) | (go_simp; with_reducible rfl)⟩) hHeld ?_
                  simp only [Act.put, List.setIfInBounds_toArray, List.set_cons_zero, List.set_cons_succ]
                  refine wpAnyH_ready (rs := [2]) (by kernel_rfl) (by simp) ?_
                  refine AllReadyH.cons rfl (fun K hK => ?_) AllReadyH.nil
                  go_simp
                  go_wp2_with fail
                  refine (hbel _).mono ?_
                  rintro r w2 ⟨rfl, hb2⟩
                  have HB2 : Hid (Below w.heap.size w w2) := HB1.out.drew.trans (hb2.mono HB1.out.drew.size)
                  have HX2 : Hid (w2.heap[w.heap.size]? = some (.cells #[.int .i64 ver, .slice (some ⟨g, 0, none⟩) n cap] 26 (0, 0))) := (hb2.block _ (lt_of_heap (w := w1.drew) HXX.out)).trans HXX.out
                  refine hK.out _ _ ⟨(hb2.cell (p := ⟨wr.heap.size, 0, none⟩) (lt_of_cell hHeld.1)).trans hHeld.1, (hb2.cell (p := ⟨wr.heap.size, 1, none⟩) (lt_of_cell hHeld.2.1)).trans hHeld.2.1, (hb2.cell (p := ⟨w.heap.size, 1, none⟩) (lt_of_cell hHeld.2.2)).trans hHeld.2.2⟩ (fun hHeld => ?_)
                  clear hK K hb2
                  refine wpAnyH_take (i := 3) (oi := _) (v := _) (by simp only [List.getElem?_toArray, List.getElem?_cons_succ, List.getElem?_cons_zero]; rfl) (by kernel_rfl) (by kernel_rfl) (by kernel_rfl) (by exact fun _ _ _ h => h) (Or.inl ⟨by rfl, by intro w' hSw; (try dsimp only at hSw); first | (go_simp; done) | (go_simp; with_reducible rfl)⟩) hHeld ?_
                  simp only [Act.put, List.setIfInBounds_toArray, List.set_cons_zero, List.set_cons_succ]
                  refine wpAnyH_take (i := 4) (oi := _) (v := _) (by simp only [List.getElem?_toArray, List.getElem?_cons_succ, List.getElem?_cons_zero]; rfl) (by kernel_rfl) (by kernel_rfl) (by kernel_rfl) (by exact fun _ _ _ h => h) (Or.inl ⟨by rfl, by intro w' hSw; (try dsimp only at hSw); first | (go_simp; done) | (go_simp; with_reducible rfl)⟩) hHeld ?_
                  simp only [Act.put, List.setIfInBounds_toArray, List.set_cons_zero, List.set_cons_succ]
                  refine wpAnyH_take (i := 5) (oi := _) (v := _) (by simp only [List.getElem?_toArray, List.getElem?_cons_succ, List.getElem?_cons_zero]; rfl) (by kernel_rfl) (by kernel_rfl) (by kernel_rfl) (by exact fun _ _ _ h => h) (Or.inl ⟨by rfl, by intro w' hSw; (try dsimp only at hSw); first | (go_simp; done) | (go_simp; with_reducible rfl)⟩) hHeld ?_
                  simp only [Act.put, List.setIfInBounds_toArray, List.set_cons_zero, List.set_cons_succ]
                  refine wpAnyH_take (i := 6) (oi := _) (v := _) (by simp only [List.getElem?_toArray, List.getElem?_cons_succ, List.getElem?_cons_zero]; rfl) (by kernel_rfl) (by kernel_rfl) (by kernel_rfl) (by exact fun _ _ _ h => h) (Or.inl ⟨by rfl, by intro w' hSw; (try dsimp only at hSw); first | (go_simp; done) | (go_simp; with_reducible rfl)⟩) hHeld ?_
                  simp only [Act.put, List.setIfInBounds_toArray, List.set_cons_zero, List.set_cons_succ]
                  refine wpAnyH_take (i := 7) (oi := _) (v := _) (by simp only [List.getElem?_toArray, List.getElem?_cons_succ, List.getElem?_cons_zero]; rfl) (by kernel_rfl) (by kernel_rfl) (by kernel_rfl) (by exact fun _ _ _ h => h) (Or.inl ⟨by rfl, by intro w' hSw; (try dsimp only at hSw); first | (go_simp; done) | (go_simp; with_reducible rfl)⟩) hHeld ?_
                  simp only [Act.put, List.setIfInBounds_toArray, List.set_cons_zero, List.set_cons_succ]
                  refine wpAnyH_take (i := 8) (oi := _) (v := _) (by simp only [List.getElem?_toArray, List.getElem?_cons_succ, List.getElem?_cons_zero]; rfl) (by kernel_rfl) (by kernel_rfl) (by kernel_rfl) (by exact fun _ _ _ h => h) (Or.inl ⟨by rfl, by intro w' hSw; (try dsimp only at hSw); first | (go_simp; done) | (go_simp; with_reducible rfl)⟩) hHeld ?_
                  simp only [Act.put, List.setIfInBounds_toArray, List.set_cons_zero, List.set_cons_succ]
                  refine wpAnyH_take (i := 9) (oi := _) (v := _) (by simp only [List.getElem?_toArray, List.getElem?_cons_succ, List.getElem?_cons_zero]; rfl) (by kernel_rfl) (by kernel_rfl) (by kernel_rfl) (by exact fun _ _ _ h => h) (Or.inl ⟨by rfl, by intro w' hSw; (try dsimp only at hSw); first | (go_simp; done) | (go_simp; with_reducible rfl)⟩) hHeld ?_
                  simp only [Act.put, List.setIfInBounds_toArray, List.set_cons_zero, List.set_cons_succ]
                  refine wpAnyH_take (i := 10) (oi := _) (v := _) (by simp only [List.getElem?_toArray, List.getElem?_cons_succ, List.getElem?_cons_zero]; rfl) (by kernel_rfl) (by kernel_rfl) (by kernel_rfl) (by exact fun _ _ _ h => h) (Or.inl ⟨by rfl, by intro w' hSw; (try dsimp only at hSw); first | (go_simp; done) | (go_simp; with_reducible rfl)⟩) hHeld ?_
                  simp only [Act.put, List.setIfInBounds_toArray, List.set_cons_zero, List.set_cons_succ]
                  refine wpAnyH_ready (rs := [11]) (by kernel_rfl) (by simp) ?_
                  refine AllReadyH.cons rfl (fun K hK => ?_) AllReadyH.nil
                  go_simp
                  go_wp2_with fail
                  refine (HC2.out _ HB2.out).mono ?_
                  rintro r w3 ⟨rfl, hb3⟩
                  have HB3 : Hid (Below w.heap.size w w3) := HB2.out.trans (hb3.mono HB2.out.size)
                  have HX3 : Hid (w3.heap[w.heap.size]? = some (.cells #[.int .i64 ver, .slice (some ⟨g, 0, none⟩) n cap] 26 (0, 0))) := (hb3.block _ (lt_of_heap HX2.out)).trans HX2.out
                  refine hK.out _ _ ⟨(hb3.cell (p := ⟨wr.heap.size, 0, none⟩) (lt_of_cell hHeld.1)).trans hHeld.1, (hb3.cell (p := ⟨wr.heap.size, 1, none⟩) (lt_of_cell hHeld.2.1)).trans hHeld.2.1, (hb3.cell (p := ⟨w.heap.size, 1, none⟩) (lt_of_cell hHeld.2.2)).trans hHeld.2.2⟩ (fun hHeld => ?_)
                  clear hK K hb3
                  refine wpAnyH_take (i := 12) (oi := _) (v := _) (by simp only [List.getElem?_toArray, List.getElem?_cons_succ, List.getElem?_cons_zero]; rfl) (by kernel_rfl) (by kernel_rfl) (by kernel_rfl) (by exact fun _ _ _ h => h) (Or.inl ⟨by rfl, by intro w' hSw; (try dsimp only at hSw); first | (go_simp; done) | (go_simp; with_reducible rfl)⟩) hHeld ?_
                  simp only [Act.put, List.setIfInBounds_toArray, List.set_cons_zero, List.set_cons_succ]
                  refine wpAnyH_done (by kernel_rfl) ?_ _
                  cases anyk
                  · have HF2 : Hid (fitB s l (k + 1) = true) := by show _ = _; rw [HS1.out, HFIT.out]; rfl
                    go_wp2
                    go_roundw
                    case rel => exact ⟨k + 1, by omega, by go_num, HF2.out, HX3.out, HB3.out⟩
                    case measure => simp [intOf]; omega
                  · have HF2 : Hid (fitB s l n = false) := fitB_le (k := k + 1) (by rw [HS1.out, HFIT.out]; rfl) n (by omega)
                    go_wp2
                    go_ret
                    exact ⟨by rw [HF.out, HF2.out]; rfl, HB3.out⟩
              · obtain rfl : k = n := by omega
                go_wp2
                go_ret
                exact ⟨by rw [HF.out, HFIT.out]; rfl, HB.out⟩
          · have HF : Hid (rightB ver l s = false) := by show _ = _; rw [HX.out]; simp [h5]
            have h5' : (36 : Int) < n := by omega
            go_enter Tryz.func10, Tryz.ntmps10
            go_wp2
            go_ret
            exact ⟨by rw [HF.out]; rfl, HB0.out⟩
        · have HF : Hid (rightB ver l s = false) := by show _ = _; rw [HX.out]; simp [h4]
          go_enter Tryz.func10, Tryz.ntmps10
          go_wp2
          go_ret
          exact ⟨by rw [HF.out]; rfl, HB0.out⟩
      · have HF : Hid (rightB ver l s = false) := by show _ = _; rw [HX.out]; simp [h3]
        go_enter Tryz.func10, Tryz.ntmps10
        go_wp2
        go_ret
        exact ⟨by rw [HF.out]; rfl, HB0.out⟩
    · have HF : Hid (rightB ver l s = false) := by show _ = _; rw [HX.out]; simp [h2]
      go_enter Tryz.func10, Tryz.ntmps10
      go_wp2
      go_ret
      exact ⟨by rw [HF.out]; rfl, HB0.out⟩
  · have HF : Hid (rightB ver l s = false) := by show _ = _; rw [HX.out]; simp [h1]
    go_enter Tryz.func10, Tryz.ntmps10
    go_wp2
    go_ret
    exact ⟨by rw [HF.out]; rfl, HB0.out⟩

end Go.Proofs.YtkfphmhnaelflacGreatDoor.Id
