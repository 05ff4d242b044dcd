/-
  The document's Right answers; where it says yes, all extents lie below 2048. No condition.
-/
import Derived.Test.YtkfphmhnaelflacGreatDoorIdSec
namespace Go.Proofs.YtkfphmhnaelflacGreatDoor.Id
open Go.ChangeShapes Go.WideShapes Go.ChangeAt Go.RowKit Go.Proofs.Fa

theorem info_bool : (Tryz.prog.info? 4).map (fun i => (i.zero, i.size, i.bytes)) = some (some (.bool false), 1, 1) := by kernel_rfl
theorem make_bools (m : Nat) (h1 : m ≤ 1000000) (W : World) :
    Sem.run Tryz.prog (Instr.makeSlice 69 (.int .i64 m) (.int .i64 m)) W = .ok (.slice (some ⟨W.heap.size, 0, none⟩) m m) (W.alloc (.cells (madeCells (Value.bool false).cells m) 4)) := by
  obtain ⟨i0, hi, hz0, hz1, hz2⟩ := info_parts info_bool
  have := run_makeSlice (P := Tryz.prog) W 69 4 i0 (.bool false) Tryz.underlying69 hi hz0 .i64 .i64 m m (by omega) (Int.le_refl _) (by rw [hz1]; omega) (by rw [hz2]; omega) (by omega)
  rw [hz1, Nat.mul_one] at this
  exact this
/-- Bools, one behind the other. -/
def Bools (W : World) (b m : Nat) : Prop := ∃ c, W.heap[b]? = some (.cells c 4 (0, 0)) ∧ ∀ j, j < m → ∃ t, c[j]? = some (.bool t)
theorem bools_made (W : World) (m : Nat) : Bools (W.alloc (.cells (madeCells (Value.bool false).cells m) 4)) W.heap.size m := by
  refine ⟨_, heap_alloc_new _ _, fun j hj => ⟨false, ?_⟩⟩
  have hc : (Value.bool false).cells = #[Value.bool false] := rfl
  simp [madeCells, hj, hc, Nat.mod_one]
theorem Bools.set {W : World} {b m j : Nat} {t : Bool} (h : Bools W b m) (hj : j < m) : Bools (W.setCell ⟨b, j, none⟩ (.bool t)) b m := by
  obtain ⟨c, hc, hh⟩ := h
  refine ⟨_, heap_setCell_same W b j _ _ _ hc, fun i hi => ?_⟩
  obtain ⟨u, hu⟩ := hh i hi
  by_cases e : i = j
  · subst e
    have hl : i < c.size := by
      rcases Nat.lt_or_ge i c.size with h | h
      · exact h
      · rw [Array.getElem?_eq_none h] at hu; cases hu
    exact ⟨t, by rw [Array.getElem?_setIfInBounds_self_of_lt hl]⟩
  · exact ⟨u, by rw [Array.getElem?_setIfInBounds_ne (by omega)]; exact hu⟩
theorem Bools.alloc {W : World} {b m : Nat} (h : Bools W b m) (o : Obj) : Bools (W.alloc o) b m := by
  obtain ⟨c, hc, hh⟩ := h
  exact ⟨c, (Below.heap_alloc _ _ _ (lt_of_heap hc)).trans hc, hh⟩

variable {w : World} {B : Nat}
set_option maxRecDepth 100000
set_option maxHeartbeats 1000000

/-- What the document's Right answers. -/
def RightAt (l : List Ext) (r : Ending) : Prop := ∃ t : Bool, r = .returned (.bool t) ∧ (t = true → OkL l ∧ l.length ≤ 36)

theorem refright_any (ver : Int) (v : Value) (l : List Ext) (hr : RowR w B v l) (hv : 0 ≤ ver ∧ ver < 281474976710656) (hwf : ∀ e ∈ l, -9223372036854775808 ≤ e.len ∧ e.len ≤ 9223372036854775807) (hn : l.length ≤ 1000) :
    Calls Tryz.prog 11 #[ino ver v, .int .i64 2048] w fun r w' => RightAt l r ∧ Below w.heap.size w w' := by
  obtain ⟨n, hln⟩ : ∃ n, l.length = n := ⟨_, rfl⟩
  obtain ⟨a, cap, hv0, hmx⟩ := row_slice hr
  rw [hln] at hv0 hmx hn
  subst hv0
  have HR : Hid (RowR w B (.slice a n cap) l) := hr
  have HW : Hid (∀ e ∈ l, -9223372036854775808 ≤ e.len ∧ e.len ≤ 9223372036854775807) := hwf
  clear hr hwf
  simp only [ino]
  obtain ⟨w0, hw0⟩ : ∃ w0, w0 = w.alloc (Obj.cells #[.int .i64 ver, .slice a n cap] 29) := ⟨_, rfl⟩
  have HX0 : Hid (w0.heap[w.heap.size]? = some (.cells #[.int .i64 ver, .slice a n cap] 29 (0, 0))) := by rw [hw0]; exact heap_alloc_new _ _
  have HB0 : Hid (Below w.heap.size w w0) := by rw [hw0]; exact (Below.refl _ _).alloc (Nat.le_refl _) _
  by_cases h36 : 36 < n
  · go_enter Tryz.func11, Tryz.ntmps11
    have h36' : (36 : Int) < (n : Int) := by omega
    go_wp2
    go_ret
    refine ⟨⟨false, rfl, fun h => by cases h⟩, ?_⟩
    rw [← hw0]; exact HB0.out
  · have h36' : ¬ (36 : Int) < (n : Int) := by omega
    have hd36 : decide ((36 : Int) < (n : Int)) = false := decide_eq_false h36'
    have hdn : decide (36 < n) = false := decide_eq_false h36
    have hmk := make_bools 2048 (by decide)
    rw [show ((2048 : Nat) : Int) = 2048 from rfl] at hmk
    have hbm := bools_made w0 2048
    have hmw := hmk w0
    rw [hw0] at hmw
    generalize hmc : madeCells (Value.bool false).cells 2048 = mc at *
    clear hmk hmc
    go_enter Tryz.func11, Tryz.ntmps11
    go_wp2_with fail
    rw [← hw0]
    have hs0 : w0.heap.size = w.heap.size + 1 := by rw [hw0]; simp
    rw [hs0] at hbm
    obtain ⟨w1, hw1⟩ : ∃ w1, w1 = w0.alloc (Obj.cells mc 4) := ⟨_, rfl⟩
    rw [← hw1] at hbm ⊢
    have HX1 : Hid (w1.heap[w.heap.size]? = some (.cells #[.int .i64 ver, .slice a n cap] 29 (0, 0))) := by rw [hw1]; exact (Below.heap_alloc _ _ _ (lt_of_heap HX0.out)).trans HX0.out
    have HB1 : Hid (Below w.heap.size w w1) := by rw [hw1]; exact HB0.out.alloc HB0.out.size _
    have HS1 : Hid (Bools w1 (w.heap.size + 1) 2048) := hbm
    clear hw1 hs0 hbm hmw hw0 HX0 HB0
    go_loopw [6] (fun i wr => ∃ k : Nat, k ≤ n ∧ i = .int .i64 k ∧ (∀ j (h : j < l.length), j < k → Ok l[j]) ∧ Bools wr (w.heap.size + 1) 2048 ∧ wr.heap[w.heap.size]? = some (.cells #[.int .i64 ver, .slice a n cap] 29 (0, 0)) ∧ Below w.heap.size w wr) (fun i _ => n - (intOf i).toNat)
    case atStart => exact ⟨0, Nat.zero_le _, rfl, fun j _ h => absurd h (Nat.not_lt_zero _), HS1.out, HX1.out, HB1.out⟩
    case round =>
      obtain ⟨k, hk, rfl, hok, hS, hX, hB⟩ := hrel
      have HOK : Hid (∀ j (h : j < l.length), j < k → Ok l[j]) := hok
      have HS : Hid (Bools wr (w.heap.size + 1) 2048) := hS
      have HX : Hid (wr.heap[w.heap.size]? = some (.cells #[.int .i64 ver, .slice a n cap] 29 (0, 0))) := hX
      have HB : Hid (Below w.heap.size w wr) := hB
      obtain ⟨x0, x1, _, _⟩ := agg2 hX
      clear hok hS hX hB HX1 HB1 HS1
      by_cases hlt : k < n
      · have hRk : RowR wr B _ l := row_below HR.out HB.out (Nat.le_refl _)
        obtain ⟨g, cap', he⟩ := row_some hRk (by omega)
        rw [hln] at he
        cases he
        obtain ⟨e0, e1⟩ := hRk.ext k (by omega)
        have hwk := HW.out _ (List.getElem_mem (show k < l.length by omega))
        have HNX : Hid (Ok l[k] → ∀ j (h : j < l.length), j < k + 1 → Ok l[j]) := fun hk0 j h hj => by
          by_cases hjk : j < k
          · exact HOK.out j h hjk
          · obtain rfl : j = k := by omega
            exact hk0
        clear hRk
        have hokd : Ok l[k] ↔ (0 ≤ l[k].pos ∧ 1 ≤ l[k].len ∧ l[k].pos + l[k].len ≤ 2048) := Iff.rfl
        generalize l[k] = y at *
        obtain ⟨yp, yl⟩ := y
        dsimp only at hokd hwk e0 e1
        have HBa : Hid (Below w.heap.size w (wr.alloc (Obj.cells #[.int .i64 yp, .int .i64 yl] 56))) := HB.out.alloc HB.out.size _
        by_cases hy1 : 1 ≤ yl
        · by_cases hy0 : 0 ≤ yp
          · by_cases hy2 : yl ≤ 2048
            · by_cases hy3 : yp ≤ 2048 - yl
              · have hOk : Ok ⟨yp, yl⟩ := ⟨hy0, hy1, by dsimp only; omega⟩
                clear hokd
                obtain ⟨wa, hwa⟩ : ∃ wa, wa = wr.alloc (Obj.cells #[.int .i64 yp, .int .i64 yl] 56) := ⟨_, rfl⟩
                have HSa : Hid (Bools wa (w.heap.size + 1) 2048) := by rw [hwa]; exact HS.out.alloc _
                have HXa : Hid (wa.heap[w.heap.size]? = some (.cells #[.int .i64 ver, .slice (some ⟨g, 0, none⟩) n cap] 29 (0, 0))) := by rw [hwa]; exact (Below.heap_alloc _ _ _ (lt_of_heap HX.out)).trans HX.out
                have HYa : Hid (wa.heap[wr.heap.size]? = some (.cells #[.int .i64 yp, .int .i64 yl] 56 (0, 0))) := by rw [hwa]; exact heap_alloc_new _ _
                obtain ⟨yb, hyb⟩ : ∃ yb, yb = wr.heap.size := ⟨_, rfl⟩
                have HYB : Hid (w.heap.size + 1 < yb) := by obtain ⟨c, hc, _⟩ := HS.out; show _ < _; rw [hyb]; exact lt_of_heap hc
                go_wp2_with fail
                rw [← hwa] at HBa
                rw [← hwa, ← hyb]
                rw [← hyb] at HYa
                clear hwa hyb e0 e1 x0 x1
                go_loopw [8] (fun i wq => ∃ j : Int, yp ≤ j ∧ j ≤ yp + yl ∧ i = .int .i64 j ∧ Bools wq (w.heap.size + 1) 2048 ∧ wq.heap[w.heap.size]? = some (.cells #[.int .i64 ver, .slice (some ⟨g, 0, none⟩) n cap] 29 (0, 0)) ∧ wq.heap[yb]? = some (.cells #[.int .i64 yp, .int .i64 yl] 56 (0, 0)) ∧ Below w.heap.size w wq) (fun i _ => (yp + yl - intOf i).toNat)
                case atStart => exact ⟨yp, Int.le_refl _, by omega, rfl, HSa.out, HXa.out, HYa.out, HBa.out⟩
                case round =>
                  obtain ⟨j, hj0, hj1, rfl, hS2, hX2, hY2, hB2⟩ := hrel
                  have HS2 : Hid (Bools wr (w.heap.size + 1) 2048) := hS2
                  have HX2 : Hid (wr.heap[w.heap.size]? = some (.cells #[.int .i64 ver, .slice (some ⟨g, 0, none⟩) n cap] 29 (0, 0))) := hX2
                  have HY2 : Hid (wr.heap[yb]? = some (.cells #[.int .i64 yp, .int .i64 yl] 56 (0, 0))) := hY2
                  have HB2 : Hid (Below w.heap.size w wr) := hB2
                  obtain ⟨y0, y1, _, _⟩ := agg2 hY2
                  obtain ⟨jn, rfl⟩ : ∃ jn : Nat, j = jn := ⟨j.toNat, by omega⟩
                  clear hS2 hX2 hY2 hB2 HSa HXa HYa HBa HS HX HB
                  by_cases hjl : (jn : Int) < yp + yl
                  · obtain ⟨c, hc, hcb⟩ := HS2.out
                    have hj2048 : jn < 2048 := by omega
                    obtain ⟨t, ht⟩ := hcb jn hj2048
                    have c0 := cell_of_heap hc jn _ ht
                    have f0 := free_of_heap hc jn
                    have hj2 : (jn : Int) < 2048 := by omega
                    clear hc hcb ht
                    cases t
                    · have HYB' := HYB.out
                      go_wp2
                      go_roundw
                      case rel => exact ⟨jn + 1, by omega, by omega, by go_num, HS2.out.set hj2048, (heap_setCell_other _ ⟨w.heap.size + 1, jn, none⟩ _ _ (by show w.heap.size ≠ w.heap.size + 1; omega)).trans HX2.out, (heap_setCell_other _ ⟨w.heap.size + 1, jn, none⟩ _ _ (by show yb ≠ w.heap.size + 1; omega)).trans HY2.out, HB2.out.setCell (p := ⟨w.heap.size + 1, jn, none⟩) (by show w.heap.size ≤ w.heap.size + 1; omega) _⟩
                      case measure => simp [intOf]; omega
                    · go_wp2
                      go_ret
                      exact ⟨⟨false, rfl, fun h => by cases h⟩, HB2.out⟩
                  · go_wp2
                    go_roundw
                    case rel => exact ⟨k + 1, by omega, by go_num, HNX.out hOk, HS2.out, HX2.out, HB2.out⟩
                    case measure => simp [intOf]; omega
              · clear hokd
                have hy3' : 2048 - yl < yp := by omega
                go_wp2
                go_ret
                exact ⟨⟨false, rfl, fun h => by cases h⟩, HBa.out⟩
            · clear hokd
              have hy2' : 2048 < yl := by omega
              go_wp2
              go_ret
              exact ⟨⟨false, rfl, fun h => by cases h⟩, HBa.out⟩
          · clear hokd
            have hy0' : yp < 0 := by omega
            go_wp2
            go_ret
            exact ⟨⟨false, rfl, fun h => by cases h⟩, HBa.out⟩
        · clear hokd
          have hy1' : yl < 1 := by omega
          go_wp2
          go_ret
          exact ⟨⟨false, rfl, fun h => by cases h⟩, HBa.out⟩
      · obtain rfl : k = n := by omega
        have HALL : Hid (OkL l ∧ l.length ≤ 36) := by
          refine ⟨fun e he => ?_, by omega⟩
          obtain ⟨j, hj, rfl⟩ := List.getElem_of_mem he
          exact HOK.out j hj (by omega)
        go_wp2
        go_ret
        exact ⟨⟨true, rfl, fun _ => HALL.out⟩, HB.out⟩

end Go.Proofs.YtkfphmhnaelflacGreatDoor.Id
