/-
  The document's Right, of any inode. No condition.
-/
import Derived.Test.YtkfphmhnaelflacGreatDoorIdRt
namespace Go.Proofs.YtkfphmhnaelflacGreatDoor.Id
open Go.ChangeShapes Go.WideShapes Go.ChangeAt Go.RowKit Go.Proofs.Fa

/-- Has an extent a sector? -/
def inB (e : Ext) (j : Nat) : Bool := decide (e.pos ≤ (j : Int)) && decide ((j : Int) < e.pos + e.len)
/-- Has one of the first extents a sector? -/
def seenB (l : List Ext) (k j : Nat) : Bool := (l.take k).any (fun e => inB e j)
theorem seenB_zero (l : List Ext) (j : Nat) : seenB l 0 j = false := by simp [seenB]
theorem seenB_succ (l : List Ext) (k j : Nat) (hk : k < l.length) : seenB l (k + 1) j = (seenB l k j || inB l[k] j) := by
  unfold seenB
  rw [List.take_succ_eq_append_getElem hk, List.any_append]
  simp
theorem seen_meets {l : List Ext} {k j : Nat} {y : Ext} (h : seenB l k j = true) (hy : inB y j = true) : (l.take k).any (meetsF y) = true := by
  unfold seenB at h
  rw [List.any_eq_true] at *
  obtain ⟨e, he, hi⟩ := h
  refine ⟨e, he, ?_⟩
  unfold inB at hi hy
  unfold meetsF
  simp only [Bool.and_eq_true, decide_eq_true_eq] at *
  omega
theorem seen_apart {l : List Ext} {k : Nat} {y : Ext} (ho : OkL (l.take k)) (hy0 : 0 ≤ y.pos) (hy1 : 1 ≤ y.len) (h : ∀ j : Nat, inB y j = true → seenB l k j = false) : (l.take k).any (meetsF y) = false := by
  rw [any_meets]
  intro e he
  cases hm : meetsF y e
  · rfl
  · exfalso
    have hoe := ho e he
    unfold Ok at hoe
    unfold meetsF at hm
    simp only [Bool.and_eq_true, decide_eq_true_eq] at hm
    have h1 := h (max y.pos e.pos).toNat (by unfold inB; simp only [Bool.and_eq_true, decide_eq_true_eq]; omega)
    have h2 : seenB l k (max y.pos e.pos).toNat = true := by
      unfold seenB
      rw [List.any_eq_true]
      exact ⟨e, he, by unfold inB; simp only [Bool.and_eq_true, decide_eq_true_eq]; omega⟩
    rw [h1] at h2
    cases h2

/-- Bools, one behind the other, as told. -/
def SeenIs (W : World) (b m : Nat) (f : Nat → Bool) : Prop := ∃ c, W.heap[b]? = some (.cells c 4 (0, 0)) ∧ ∀ j, j < m → c[j]? = some (.bool (f j))
theorem seen_made (W : World) (m : Nat) : SeenIs (W.alloc (.cells (madeCells (Value.bool false).cells m) 4)) W.heap.size m (fun _ => false) := by
  refine ⟨_, heap_alloc_new _ _, fun j hj => ?_⟩
  have hc : (Value.bool false).cells = #[Value.bool false] := rfl
  simp [madeCells, hj, hc, Nat.mod_one]
theorem SeenIs.set {W : World} {b m j : Nat} {f : Nat → Bool} (h : SeenIs W b m f) (hj : j < m) : SeenIs (W.setCell ⟨b, j, none⟩ (.bool true)) b m (fun i => f i || decide (i = j)) := by
  obtain ⟨c, hc, hh⟩ := h
  refine ⟨_, heap_setCell_same W b j _ _ _ hc, fun i hi => ?_⟩
  have hu := hh i hi
  by_cases e : i = j
  · subst e
    have hl : i < c.size := by
      rcases Nat.lt_or_ge i c.size with h | h
      · exact h
      · rw [Array.getElem?_eq_none h] at hu; cases hu
    rw [Array.getElem?_setIfInBounds_self_of_lt hl]
    simp
  · rw [Array.getElem?_setIfInBounds_ne (by omega), hu]
    simp [e]
theorem SeenIs.alloc {W : World} {b m : Nat} {f : Nat → Bool} (h : SeenIs W b m f) (o : Obj) : SeenIs (W.alloc o) b m f := by
  obtain ⟨c, hc, hh⟩ := h
  exact ⟨c, (Below.heap_alloc _ _ _ (lt_of_heap hc)).trans hc, hh⟩
theorem SeenIs.same {W : World} {b m : Nat} {f g : Nat → Bool} (h : SeenIs W b m f) (e : ∀ j, j < m → f j = g j) : SeenIs W b m g := by
  obtain ⟨c, hc, hh⟩ := h
  exact ⟨c, hc, fun j hj => by rw [← e j hj]; exact hh j hj⟩

variable {w : World} {B : Nat}
set_option maxRecDepth 100000
set_option maxHeartbeats 1000000

theorem refrightX_any (ver : Int) (v : Value) (l : List Ext) (s : Int) (hr : RowR w B v l) (hn : l.length ≤ 1000) :
    Calls Tryz.prog 11 #[ino ver v, .int .i64 s] w fun r w' => r = .returned (.bool (rightB ver l s)) ∧ Below w.heap.size w w' := by
  obtain ⟨n, hln⟩ : ∃ n, l.length = n := ⟨_, rfl⟩
  obtain ⟨a, cap, hv0, hmx⟩ := row_slice hr
  rw [hln] at hv0 hmx hn
  subst hv0
  have HR : Hid (RowR w B (.slice a n cap) l) := hr
  have HX : Hid (rightB ver l s = (decide (1 ≤ s) && (decide (s ≤ 2048) && (decide (0 ≤ ver) && (decide (ver < 281474976710656) && (decide (n ≤ 36) && fitB s l n)))))) := by show _ = _; rw [← hln]; rfl
  clear hr
  simp only [ino]
  have HB0 : Hid (Below w.heap.size w (w.alloc (Obj.cells #[.int .i64 ver, .slice a n cap] 29))) := (Below.refl _ _).alloc (Nat.le_refl _) _
  by_cases h1 : 1 ≤ s
  · by_cases h2 : s ≤ 2048
    · by_cases h3 : 0 ≤ ver
      · by_cases h4 : ver < 281474976710656
        · by_cases h5 : n ≤ 36
          · have HF : Hid (rightB ver l s = fitB s l n) := by show _ = _; rw [HX.out]; simp [h1, h2, h3, h4, h5]
            obtain ⟨w0, hw0⟩ : ∃ w0, w0 = w.alloc (Obj.cells #[.int .i64 ver, .slice a n cap] 29) := ⟨_, rfl⟩
            rw [← hw0] at HB0
            have HX0 : Hid (w0.heap[w.heap.size]? = some (.cells #[.int .i64 ver, .slice a n cap] 29 (0, 0))) := by rw [hw0]; exact heap_alloc_new _ _
            clear HX
            obtain ⟨sn, rfl⟩ : ∃ sn : Nat, s = sn := ⟨s.toNat, by omega⟩
            have hmk := make_bools sn (by omega) w0
            have hbm := seen_made w0 sn
            rw [hw0] at hmk
            generalize hmc : madeCells (Value.bool false).cells sn = mc at *
            clear hmc
            have h36' : ¬ (36 : Int) < (n : Int) := by omega
            have hd36 : decide ((36 : Int) < (n : Int)) = false := decide_eq_false h36'
            have hdn : decide (36 < n) = false := decide_eq_false (by omega)
            go_enter Tryz.func11, Tryz.ntmps11
            go_wp2_with fail
            rw [← hw0]
            have hs0 : w0.heap.size = w.heap.size + 1 := by rw [hw0]; simp
            rw [hs0] at hbm
            obtain ⟨w1, hw1⟩ : ∃ w1, w1 = w0.alloc (Obj.cells mc 4) := ⟨_, rfl⟩
            rw [← hw1] at hbm ⊢
            have HX1 : Hid (w1.heap[w.heap.size]? = some (.cells #[.int .i64 ver, .slice a n cap] 29 (0, 0))) := by rw [hw1]; exact (Below.heap_alloc _ _ _ (lt_of_heap HX0.out)).trans HX0.out
            have HB1 : Hid (Below w.heap.size w w1) := by rw [hw1]; exact HB0.out.alloc HB0.out.size _
            have HS1 : Hid (SeenIs w1 (w.heap.size + 1) sn (seenB l 0)) := SeenIs.same hbm (fun j _ => (seenB_zero l j).symm)
            clear hw1 hs0 hbm hmk hw0 HX0 HB0
            go_loopw [6] (fun i wr => ∃ k : Nat, k ≤ n ∧ i = .int .i64 k ∧ fitB sn l k = true ∧ SeenIs wr (w.heap.size + 1) sn (seenB l k) ∧ wr.heap[w.heap.size]? = some (.cells #[.int .i64 ver, .slice a n cap] 29 (0, 0)) ∧ Below w.heap.size w wr) (fun i _ => n - (intOf i).toNat)
            case atStart => exact ⟨0, Nat.zero_le _, rfl, rfl, HS1.out, HX1.out, HB1.out⟩
            case round =>
              obtain ⟨k, hk, rfl, hfit, hS, hX, hB⟩ := hrel
              have HFIT : Hid (fitB sn l k = true) := hfit
              have HS : Hid (SeenIs wr (w.heap.size + 1) sn (seenB l k)) := hS
              have HX : Hid (wr.heap[w.heap.size]? = some (.cells #[.int .i64 ver, .slice a n cap] 29 (0, 0))) := hX
              have HB : Hid (Below w.heap.size w wr) := hB
              obtain ⟨x0, x1, _, _⟩ := agg2 hX
              clear hfit hS hX hB HX1 HB1 HS1
              by_cases hlt : k < n
              · have hRk : RowR wr B _ l := row_below HR.out HB.out (Nat.le_refl _)
                obtain ⟨g, cap', he⟩ := row_some hRk (by omega)
                rw [hln] at he
                cases he
                obtain ⟨e0, e1⟩ := hRk.ext k (by omega)
                clear hRk
                have HS1 : Hid (fitB sn l (k + 1) = (fitB sn l k && (belowF l[k] sn && !((l.take k).any (meetsF l[k]))))) := fitB_succ sn l k (by omega)
                have HSS : Hid (∀ j, seenB l (k + 1) j = (seenB l k j || inB l[k] j)) := fun j => seenB_succ l k j (by omega)
                have HOKT : Hid (OkL (l.take k)) := fitB_ok HFIT.out h2 (by omega)
                generalize l[k] = y at *
                obtain ⟨yp, yl⟩ := y
                dsimp only at e0 e1
                have hbf : ¬ (0 ≤ yp ∧ 1 ≤ yl ∧ yl ≤ (sn : Int) - yp) → belowF ⟨yp, yl⟩ sn = false := fun h => by
                  rw [← Bool.not_eq_true]
                  unfold belowF
                  simp only [Bool.and_eq_true, decide_eq_true_eq]
                  omega
                have hbt : (0 ≤ yp ∧ 1 ≤ yl ∧ yl ≤ (sn : Int) - yp) → belowF ⟨yp, yl⟩ sn = true := fun h => by
                  unfold belowF
                  simp only [Bool.and_eq_true, decide_eq_true_eq]
                  omega
                have HBa : Hid (Below w.heap.size w (wr.alloc (Obj.cells #[.int .i64 yp, .int .i64 yl] 56))) := HB.out.alloc HB.out.size _
                by_cases hy1 : 1 ≤ yl
                · by_cases hy0 : 0 ≤ yp
                  · by_cases hy2 : yl ≤ (sn : Int)
                    · by_cases hy3 : yp ≤ (sn : Int) - yl
                      · have HBT : Hid (belowF ⟨yp, yl⟩ sn = true) := hbt ⟨hy0, hy1, by omega⟩
                        clear hbf hbt
                        obtain ⟨wa, hwa⟩ : ∃ wa, wa = wr.alloc (Obj.cells #[.int .i64 yp, .int .i64 yl] 56) := ⟨_, rfl⟩
                        have HSa : Hid (SeenIs wa (w.heap.size + 1) sn (seenB l k)) := by rw [hwa]; exact HS.out.alloc _
                        have HXa : Hid (wa.heap[w.heap.size]? = some (.cells #[.int .i64 ver, .slice (some ⟨g, 0, none⟩) n cap] 29 (0, 0))) := by rw [hwa]; exact (Below.heap_alloc _ _ _ (lt_of_heap HX.out)).trans HX.out
                        have HYa : Hid (wa.heap[wr.heap.size]? = some (.cells #[.int .i64 yp, .int .i64 yl] 56 (0, 0))) := by rw [hwa]; exact heap_alloc_new _ _
                        obtain ⟨yb, hyb⟩ : ∃ yb, yb = wr.heap.size := ⟨_, rfl⟩
                        have HYB : Hid (w.heap.size + 1 < yb) := by obtain ⟨c, hc, _⟩ := HS.out; show _ < _; rw [hyb]; exact lt_of_heap hc
                        go_wp2_with fail
                        rw [← hwa] at HBa
                        rw [← hwa, ← hyb]
                        rw [← hyb] at HYa
                        clear hwa hyb e0 e1 x0 x1
                        go_loopw [8] (fun i wq => ∃ j : Int, yp ≤ j ∧ j ≤ yp + yl ∧ i = .int .i64 j ∧ (∀ q : Nat, yp ≤ (q : Int) → (q : Int) < j → seenB l k q = false) ∧ SeenIs wq (w.heap.size + 1) sn (fun q => seenB l k q || (decide (yp ≤ (q : Int)) && decide ((q : Int) < j))) ∧ wq.heap[w.heap.size]? = some (.cells #[.int .i64 ver, .slice (some ⟨g, 0, none⟩) n cap] 29 (0, 0)) ∧ wq.heap[yb]? = some (.cells #[.int .i64 yp, .int .i64 yl] 56 (0, 0)) ∧ Below w.heap.size w wq) (fun i _ => (yp + yl - intOf i).toNat)
                        case atStart => exact ⟨yp, Int.le_refl _, by omega, rfl, fun q h1 h2 => absurd h1 (by omega), SeenIs.same HSa.out (fun q _ => by rw [show (decide (yp ≤ (q : Int)) && decide ((q : Int) < yp)) = false by rw [← Bool.not_eq_true]; simp only [Bool.and_eq_true, decide_eq_true_eq]; omega, Bool.or_false]), HXa.out, HYa.out, HBa.out⟩
                        case round =>
                          obtain ⟨j, hj0, hj1, rfl, hq2, hS2, hX2, hY2, hB2⟩ := hrel
                          have HQ2 : Hid (∀ q : Nat, yp ≤ (q : Int) → (q : Int) < j → seenB l k q = false) := hq2
                          have HS2 : Hid (SeenIs wr (w.heap.size + 1) sn (fun q => seenB l k q || (decide (yp ≤ (q : Int)) && decide ((q : Int) < j)))) := hS2
                          have HX2 : Hid (wr.heap[w.heap.size]? = some (.cells #[.int .i64 ver, .slice (some ⟨g, 0, none⟩) n cap] 29 (0, 0))) := hX2
                          have HY2 : Hid (wr.heap[yb]? = some (.cells #[.int .i64 yp, .int .i64 yl] 56 (0, 0))) := hY2
                          have HB2 : Hid (Below w.heap.size w wr) := hB2
                          obtain ⟨y0, y1, _, _⟩ := agg2 hY2
                          obtain ⟨jn, rfl⟩ : ∃ jn : Nat, j = jn := ⟨j.toNat, by omega⟩
                          clear hq2 hS2 hX2 hY2 hB2 HSa HXa HYa HBa HS HX HB
                          by_cases hjl : (jn : Int) < yp + yl
                          · obtain ⟨c, hc, hcb⟩ := HS2.out
                            have hjs : jn < sn := by omega
                            have ht := hcb jn hjs
                            dsimp only at ht
                            rw [show (seenB l k jn || (decide (yp ≤ (jn : Int)) && decide ((jn : Int) < (jn : Int)))) = seenB l k jn by rw [show decide ((jn : Int) < (jn : Int)) = false from decide_eq_false (by omega), Bool.and_false, Bool.or_false]] at ht
                            have c0 := cell_of_heap hc jn _ ht
                            have f0 := free_of_heap hc jn
                            have hjs' : (jn : Int) < (sn : Int) := by omega
                            clear hc hcb ht
                            cases hsb : seenB l k jn
                            · rw [hsb] at c0
                              have HYB' := HYB.out
                              have HQ3 : Hid (∀ q : Nat, yp ≤ (q : Int) → (q : Int) < (jn : Int) + 1 → seenB l k q = false) := fun q h1 h2 => by
                                by_cases e : (q : Int) < jn
                                · exact HQ2.out q h1 e
                                · obtain rfl : q = jn := by omega
                                  exact hsb
                              have HS3 : Hid (SeenIs (wr.setCell ⟨w.heap.size + 1, jn, none⟩ (.bool true)) (w.heap.size + 1) sn (fun q => seenB l k q || (decide (yp ≤ (q : Int)) && decide ((q : Int) < (jn : Int) + 1)))) := SeenIs.same (HS2.out.set hjs) (fun q _ => by
                                rw [Bool.or_assoc]
                                congr 1
                                rw [Bool.eq_iff_iff]
                                simp only [Bool.or_eq_true, Bool.and_eq_true, decide_eq_true_eq]
                                omega)
                              clear hsb
                              go_wp2
                              go_roundw
                              case rel => exact ⟨jn + 1, by omega, by omega, by go_num, HQ3.out, HS3.out, (heap_setCell_other _ ⟨w.heap.size + 1, jn, none⟩ _ _ (by show w.heap.size ≠ w.heap.size + 1; omega)).trans HX2.out, (heap_setCell_other _ ⟨w.heap.size + 1, jn, none⟩ _ _ (by show yb ≠ w.heap.size + 1; omega)).trans HY2.out, HB2.out.setCell (p := ⟨w.heap.size + 1, jn, none⟩) (by show w.heap.size ≤ w.heap.size + 1; omega) _⟩
                              case measure => simp [intOf]; omega
                            · rw [hsb] at c0
                              have HFN : Hid (fitB sn l n = false) := fitB_le (k := k + 1) (by rw [HS1.out, seen_meets (y := ⟨yp, yl⟩) hsb (by unfold inB; simp only [Bool.and_eq_true, decide_eq_true_eq]; omega), Bool.not_true, Bool.and_false, Bool.and_false]) n (by omega)
                              clear hsb
                              go_wp2
                              go_ret
                              exact ⟨by rw [HF.out, HFN.out]; rfl, HB2.out⟩
                          · have HF3 : Hid (fitB sn l (k + 1) = true) := by
                              show _ = _
                              rw [HS1.out, HFIT.out, HBT.out, seen_apart (y := ⟨yp, yl⟩) HOKT.out hy0 hy1 (fun q hq => HQ2.out q (by unfold inB at hq; simp only [Bool.and_eq_true, decide_eq_true_eq] at hq; omega) (by unfold inB at hq; simp only [Bool.and_eq_true, decide_eq_true_eq] at hq; omega))]
                              rfl
                            have HS3 : Hid (SeenIs wr (w.heap.size + 1) sn (seenB l (k + 1))) := SeenIs.same HS2.out (fun q _ => by
                              rw [HSS.out q]
                              congr 1
                              unfold inB
                              rw [Bool.eq_iff_iff]
                              simp only [Bool.and_eq_true, decide_eq_true_eq]
                              omega)
                            go_wp2
                            go_roundw
                            case rel => exact ⟨k + 1, by omega, by go_num, HF3.out, HS3.out, HX2.out, HB2.out⟩
                            case measure => simp [intOf]; omega
                      · have hy3' : (sn : Int) - yl < yp := by omega
                        have HFN : Hid (fitB sn l n = false) := fitB_le (k := k + 1) (by rw [HS1.out, hbf (by omega), Bool.false_and, Bool.and_false]) n (by omega)
                        clear HS1 hbf hbt
                        go_wp2
                        go_ret
                        exact ⟨by rw [HF.out, HFN.out]; rfl, HBa.out⟩
                    · have hy2' : (sn : Int) < yl := by omega
                      have HFN : Hid (fitB sn l n = false) := fitB_le (k := k + 1) (by rw [HS1.out, hbf (by omega), Bool.false_and, Bool.and_false]) n (by omega)
                      clear HS1 hbf hbt
                      go_wp2
                      go_ret
                      exact ⟨by rw [HF.out, HFN.out]; rfl, HBa.out⟩
                  · have hy0' : yp < 0 := by omega
                    have HFN : Hid (fitB sn l n = false) := fitB_le (k := k + 1) (by rw [HS1.out, hbf (by omega), Bool.false_and, Bool.and_false]) n (by omega)
                    clear HS1 hbf hbt
                    go_wp2
                    go_ret
                    exact ⟨by rw [HF.out, HFN.out]; rfl, HBa.out⟩
                · have hy1' : yl < 1 := by omega
                  have HFN : Hid (fitB sn l n = false) := fitB_le (k := k + 1) (by rw [HS1.out, hbf (by omega), Bool.false_and, Bool.and_false]) n (by omega)
                  clear HS1 hbf hbt
                  go_wp2
                  go_ret
                  exact ⟨by rw [HF.out, HFN.out]; rfl, HBa.out⟩
              · obtain rfl : k = n := by omega
                go_wp2
                go_ret
                exact ⟨by rw [HF.out, HFIT.out]; rfl, HB.out⟩
          · have HF : Hid (rightB ver l s = false) := by show _ = _; rw [HX.out]; simp [h5]
            have h5' : (36 : Int) < n := by omega
            go_enter Tryz.func11, Tryz.ntmps11
            go_wp2
            go_ret
            exact ⟨by rw [HF.out]; rfl, HB0.out⟩
        · have HF : Hid (rightB ver l s = false) := by show _ = _; rw [HX.out]; simp [h4]
          go_enter Tryz.func11, Tryz.ntmps11
          go_wp2
          go_ret
          exact ⟨by rw [HF.out]; rfl, HB0.out⟩
      · have HF : Hid (rightB ver l s = false) := by show _ = _; rw [HX.out]; simp [h3]
        go_enter Tryz.func11, Tryz.ntmps11
        go_wp2
        go_ret
        exact ⟨by rw [HF.out]; rfl, HB0.out⟩
    · have HF : Hid (rightB ver l s = false) := by show _ = _; rw [HX.out]; simp [h2]
      go_enter Tryz.func11, Tryz.ntmps11
      go_wp2
      go_ret
      exact ⟨by rw [HF.out]; rfl, HB0.out⟩
  · have HF : Hid (rightB ver l s = false) := by show _ = _; rw [HX.out]; simp [h1]
    go_enter Tryz.func11, Tryz.ntmps11
    go_wp2
    go_ret
    exact ⟨by rw [HF.out]; rfl, HB0.out⟩

end Go.Proofs.YtkfphmhnaelflacGreatDoor.Id
