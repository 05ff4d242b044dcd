/-
  The document's sector of a set. Conditions: every byte is below 256, and no number is taken that isn't below the bound.
-/
import Derived.Test.YtkflhakgfpiiaaaDoorBtRef2
import Derived.Test.YtkflhakgfpiiaaaDoorBtP
import Derived.Test.YtkflhakgfpiiaaaDoorSlRef
import Derived.Test.YtkflhakgfpiiaaaDoorZsMake
namespace Go.Proofs.YtkflhakgfpiiaaaDoor.Bt
open Go.ChangeShapes Go.WideShapes Go.ChangeAt Go.RowKit Go.Proofs.Fa
open Go.Proofs.YtkflhakgfpiiaaaDoor.Mk (sealS refseal_yes)

/-- A row of 504 bytes. -/
def BytesAt (W : World) (b : Nat) (X : Nat → Nat) : Prop := ∃ c, W.heap[b]? = some (.cells c 5 (0, 0)) ∧ c.size = 504 ∧ ∀ j, j < 504 → c[j]? = some (.int .u8 (X j))
theorem BytesAt.congr {W : World} {b : Nat} {X Y : Nat → Nat} (h : BytesAt W b X) (e : ∀ j, j < 504 → X j = Y j) : BytesAt W b Y := by
  obtain ⟨c, h1, h2, h3⟩ := h
  exact ⟨c, h1, h2, fun j hj => by rw [← e j hj]; exact h3 j hj⟩
theorem BytesAt.made (W : World) : BytesAt (W.alloc (.cells (madeCells (Value.int .u8 0).cells 504) 5)) W.heap.size (fun _ => 0) := by
  have hc : (Value.int IntKind.u8 0).cells = #[Value.int .u8 0] := rfl
  refine ⟨_, heap_alloc_new _ _, by simp [madeCells, hc], fun j hj => ?_⟩
  simp [madeCells, hj, hc, Nat.mod_one]
theorem BytesAt.cell {W : World} {b : Nat} {X : Nat → Nat} (h : BytesAt W b X) (j : Nat) (hj : j < 504) : W.cell? ⟨b, j, none⟩ = some (.int .u8 (X j)) := by
  obtain ⟨c, h1, h2, h3⟩ := h
  exact cell_of_heap h1 j _ (h3 j hj)
theorem BytesAt.free {W : World} {b : Nat} {X : Nat → Nat} (h : BytesAt W b X) (j : Nat) : W.frozen? ⟨b, j, none⟩ = false := by
  obtain ⟨c, h1, h2, h3⟩ := h
  exact free_of_heap h1 j
theorem BytesAt.set {W : World} {b : Nat} {X : Nat → Nat} (h : BytesAt W b X) (j y : Nat) : BytesAt (W.setCell ⟨b, j, none⟩ (.int .u8 y)) b (fun i => if i = j then y else X i) := by
  obtain ⟨c, h1, h2, h3⟩ := h
  refine ⟨_, heap_setCell_same W b j _ _ _ h1, by simp [h2], fun i hi => ?_⟩
  by_cases e : i = j
  · subst e
    dsimp only
    rw [if_pos rfl, Array.getElem?_setIfInBounds_self_of_lt (by omega)]
  · dsimp only
    rw [if_neg e, Array.getElem?_setIfInBounds_ne (by omega)]
    exact h3 i hi
theorem BytesAt.conv {W : World} {b : Nat} {X : Nat → Nat} (h : BytesAt W b X) : Sem.run Tryd.prog (convert 68 9 (.slice (some ⟨b, 0, none⟩) 504 504)) W = .ok (.string (bodyS X)) W :=
  run_convert_bytes_arg (P := Tryd.prog) W 68 5 Tryd.underlying68 Tryd.underlying5 b 0 504 504 (bodyL X) (bodyL_length X) (by
    intro i hi
    rw [Nat.zero_add, h.cell i hi]
    simp [bodyL, hi]) 9 Tryd.underlying9

/-- A byte, as far as so many numbers say it. -/
def partB (B : Nat → Nat) (k : Nat) : Nat → Nat := fun j => B j % 2 ^ (min 8 (k - 8 * j))
theorem partB_zero (B : Nat → Nat) (j : Nat) : partB B 0 j = 0 := by unfold partB; rw [Nat.zero_sub, Nat.min_eq_right (Nat.zero_le _), Nat.pow_zero, Nat.mod_one]
theorem mod_succ (x r : Nat) : x % 2 ^ (r + 1) = x % 2 ^ r + 2 ^ r * (x.testBit r).toNat := by
  rw [Nat.mod_pow_succ, Nat.testBit_eq_decide_div_mod_eq]
  rcases Nat.mod_two_eq_zero_or_one (x / 2 ^ r) with h | h
  · rw [h]; simp
  · rw [h]; simp
theorem partB_step (B : Nat → Nat) (k j : Nat) : partB B (k + 1) j = if j = k / 8 then partB B k j + 2 ^ (k % 8) * (tk B k).toNat else partB B k j := by
  unfold partB tk
  by_cases e : j = k / 8
  · subst e
    rw [if_pos rfl, show min 8 (k + 1 - 8 * (k / 8)) = k % 8 + 1 by omega, show min 8 (k - 8 * (k / 8)) = k % 8 by omega, mod_succ]
  · rw [if_neg e, show min 8 (k + 1 - 8 * j) = min 8 (k - 8 * j) by omega]
theorem partB_lt (B : Nat → Nat) (k j : Nat) : partB B k j < 256 := by
  unfold partB
  have h1 : 2 ^ (min 8 (k - 8 * j)) ≤ 2 ^ 8 := Nat.pow_le_pow_right (by decide) (by omega)
  have h2 := Nat.mod_lt (B j) (show 2 ^ (min 8 (k - 8 * j)) > 0 from Nat.pow_pos (by decide))
  omega
theorem partB_all (B : Nat → Nat) (n j : Nat) (hl : B j < 256) (hb : ∀ i, n ≤ i → i < 4032 → tk B i = false) (hj : j < 504) : partB B n j = B j := by
  unfold partB
  apply Nat.eq_of_testBit_eq
  intro i
  rw [Nat.testBit_mod_two_pow]
  by_cases h8 : i < 8
  · by_cases hi : i < min 8 (n - 8 * j)
    · rw [decide_eq_true hi]; rfl
    · rw [decide_eq_false hi, Bool.false_and]
      have := hb (8 * j + i) (by omega) (by omega)
      unfold tk at this
      rw [show (8 * j + i) / 8 = j by omega, show (8 * j + i) % 8 = i by omega] at this
      exact this.symm
  · rw [decide_eq_false (by omega), Bool.false_and]
    exact (Nat.testBit_lt_two_pow (Nat.lt_of_lt_of_le hl (by rw [show (256 : Nat) = 2 ^ 8 from rfl]; exact Nat.pow_le_pow_right (by decide) (by omega)))).symm

variable {w : World} {C : Nat}
set_option maxRecDepth 100000
set_option maxHeartbeats 1000000

theorem refput_any (v : Value) (n : Nat) (B : Nat → Nat) (hr : RowB w C v n (tk B)) (hn : n ≤ 4000) (hl : ∀ j, B j < 256) (hb : ∀ i, n ≤ i → i < 4032 → tk B i = false) :
    Calls Tryd.prog 20 #[v] w fun r w' => r = .returned (.string (sealS 5 (bodyS B))) ∧ Below w.heap.size w w' := by
  obtain ⟨a, cap, rfl, _⟩ := row_slice' hr
  have HR : Hid (RowB w C (.slice a n cap) n (tk B)) := hr
  have HEND : Hid (∀ j, j < 504 → partB B n j = B j) := fun j hj => partB_all B n j (hl j) hb hj
  clear hr hl hb
  have hmk := Zs.make_run 504 (by decide) (by decide) w
  rw [show (504 : Int).toNat = 504 from rfl] at hmk
  have hbm := BytesAt.made w
  generalize hmc : madeCells (Value.int .u8 0).cells 504 = mc at *
  clear hmc
  go_enter Tryd.func20, Tryd.ntmps20
  go_wp2_with fail
  obtain ⟨w1, hw1⟩ : ∃ w1, w1 = w.alloc (Obj.cells mc 5) := ⟨_, rfl⟩
  rw [← hw1] at hbm ⊢
  have HB1 : Hid (Below w.heap.size w w1) := by rw [hw1]; exact (Below.refl _ _).alloc (Nat.le_refl _) _
  have HY1 : Hid (BytesAt w1 w.heap.size (partB B 0)) := hbm.congr (fun j _ => (partB_zero B j).symm)
  clear hw1 hbm hmk
  go_loopw [4] (fun j wr => ∃ k : Nat, k ≤ n ∧ j = .int .i64 k ∧ BytesAt wr w.heap.size (partB B k) ∧ Below w.heap.size w wr) (fun j _ => n - (intOf j).toNat)
  case atStart => exact ⟨0, Nat.zero_le _, rfl, HY1.out, HB1.out⟩
  case round =>
    obtain ⟨k, hk, rfl, hy, hb⟩ := hrel
    have HY : Hid (BytesAt wr w.heap.size (partB B k)) := hy
    have HB : Hid (Below w.heap.size w wr) := hb
    clear hy hb HY1 HB1
    by_cases hlt : k < n
    · obtain ⟨g, c', he⟩ := row_some' HR.out (by omega)
      cases he
      have e0 := RowB.bool (row_below' HR.out HB.out (Nat.le_refl _)) k hlt
      have hstep := partB_step B k
      have hplt := partB_lt B k (k / 8)
      have hplt1 := partB_lt B (k + 1) (k / 8)
      cases ht : tk B k
      · rw [ht] at e0 hstep
        have HN : Hid (BytesAt wr w.heap.size (partB B (k + 1))) := HY.out.congr (fun j _ => by rw [hstep j]; simp)
        clear ht hstep hplt hplt1
        go_wp2
        go_roundw
        case rel => exact ⟨k + 1, by omega, by go_num, HN.out, HB.out⟩
        case measure => simp [intOf]; omega
      · rw [ht] at e0 hstep
        have h1 := hstep (k / 8)
        rw [if_pos rfl, Bool.toNat_true, Nat.mul_one] at h1
        have e1 := HY.out.cell (k / 8) (by omega)
        have f1 := HY.out.free (k / 8)
        have HN : Hid (BytesAt (wr.setCell ⟨w.heap.size, k / 8, none⟩ (.int .u8 (partB B (k + 1) (k / 8) : Nat))) w.heap.size (partB B (k + 1))) := (HY.out.set (k / 8) (partB B (k + 1) (k / 8))).congr (fun j _ => by
          by_cases e : j = k / 8
          · subst e; rw [if_pos rfl]
          · rw [if_neg e, hstep j, if_neg e])
        have HE : Hid (((partB B (k + 1) (k / 8) : Nat) : Int) = (partB B k (k / 8) : Nat) + ((2 ^ (k % 8) : Nat) : Int)) := by show _ = _; rw [h1]; push_cast; rfl
        clear ht hstep h1
        generalize partB B (k + 1) (k / 8) = y1 at *
        generalize partB B k (k / 8) = y0 at *
        go_wp2_with fail
        have hrem : ((k : Nat) : Int).tmod 8 = ((k % 8 : Nat) : Int) := by rw [Int.tmod_eq_emod_of_nonneg (by omega)]; omega
        have hdiv : ((k : Nat) : Int).tdiv 8 = ((k / 8 : Nat) : Int) := by rw [Int.tdiv_eq_ediv_of_nonneg (by omega)]; omega
        go_loop [5, 6] (fun p j => ∃ m q : Nat, m ≤ k % 8 ∧ j = .int .i64 m ∧ p = .int .i64 q ∧ q = 2 ^ m) (fun _ j => k % 8 - (intOf j).toNat)
        case atStart => exact ⟨0, 1, Nat.zero_le _, rfl, rfl, rfl⟩
        case round =>
          obtain ⟨m, q, hm, rfl, rfl, hq⟩ := hrel
          have HQ : Hid (q = 2 ^ m) := hq
          have hq128 : q ≤ 128 := by rw [hq]; exact Nat.pow_le_pow_right (n := 2) (j := 7) (by decide) (by omega)
          clear hq
          have hk8 : k % 8 < 8 := Nat.mod_lt _ (by decide)
          by_cases hlm : m < k % 8
          · have hlm' : ((m : Nat) : Int) < ((k % 8 : Nat) : Int) := by omega
            go_wp2
            go_round
            case rel => exact ⟨m + 1, q * 2, by omega, by go_num, by go_num, by rw [HQ.out, Nat.pow_succ]⟩
            case measure => simp [intOf]; omega
          · obtain rfl : m = k % 8 := by omega
            have HE2 : Hid (((y1 : Nat) : Int) = (y0 : Int) + (q : Int)) := by show _ = _; rw [HE.out, HQ.out]
            have hy : IntKind.u8.wrap ((y0 : Int) + (q : Int)) = (y1 : Int) := by rw [← HE2.out]; show (y1 : Int) % 256 = _; omega
            have hq8 : IntKind.u8.wrap (q : Int) = (q : Int) := by show (q : Int) % 256 = _; omega
            clear HE
            go_wp2
            go_roundw
            case rel => exact ⟨k + 1, by omega, by go_num, HN.out, HB.out.setCell (p := ⟨w.heap.size, k / 8, none⟩) (Nat.le_refl _) _⟩
            case measure => simp [intOf]; omega
    · obtain rfl : k = n := by omega
      have HY2 : Hid (BytesAt wr w.heap.size B) := HY.out.congr HEND.out
      have hC := HY2.out.conv
      have hS := refseal_yes 5 (bodyS B) wr (by decide) (by decide) (by rw [bodyS_size]; exact Nat.le_refl _)
      obtain ⟨ss, hss⟩ : ∃ ss, sealS 5 (bodyS B) = ss := ⟨_, rfl⟩
      rw [hss] at hS
      have HSS : Hid (sealS 5 (bodyS B) = ss) := hss
      obtain ⟨bs, hbs⟩ : ∃ bs, bodyS B = bs := ⟨_, rfl⟩
      rw [hbs] at hS hC
      clear hss hbs
      go_wp2_with fail
      refine hS.mono ?_
      rintro r w2 ⟨rfl, hb2⟩
      have HB2 : Hid (Below w.heap.size w w2) := HB.out.trans (hb2.mono HB.out.size)
      clear hS hb2 hC
      go_wp2
      go_ret
      exact ⟨by rw [HSS.out]; rfl, HB2.out⟩

end Go.Proofs.YtkflhakgfpiiaaaDoor.Bt
