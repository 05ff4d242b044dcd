/-
  Whether a set is the document's one. No condition.
-/
import Derived.Test.YtkflhakgfpiiaaaDoorBtRef2
import Derived.Test.YtkflhakgfpiiaaaDoorBtZ
namespace Go.Proofs.YtkflhakgfpiiaaaDoor.Bt
open Go.ChangeShapes Go.WideShapes Go.ChangeAt Go.RowKit Go.Proofs.Fa

variable {w : World} {C : Nat}
set_option maxRecDepth 100000
set_option maxHeartbeats 1000000

theorem same_any (v u : Value) (n : Nat) (B : Nat → Nat) (h : SetV w v n B) (hr : RowB w C u n (tk B)) :
    Calls Tryd.prog 17 #[v, u] w fun r w' => r = .returned (.bool true) ∧ Below w.heap.size w w' := by
  have hmx := h.max
  obtain ⟨a, cap, rfl, _⟩ := row_slice' hr
  have HR : Hid (RowB w C (.slice a n cap) n (tk B)) := hr
  have HV : Hid (SetV w v n B) := h
  have hcn : cntF (tk B) n = cnt B n 0 := by have := cntF_cnt B n 0; simp only [Nat.zero_add] at this; exact this
  have hsize := size_any v n B w h
  clear h hr
  go_enter Tryd.func17, Tryd.ntmps17
  go_wp2_with fail
  refine hsize.mono ?_
  rintro r w1 ⟨rfl, hb1⟩
  clear hsize
  have hfree := reffree_any (w := w1) (B := C) (.slice a n cap) n (tk B) (row_below' HR.out hb1 (Nat.le_refl _)) (by omega)
  rw [hcn] at hfree
  clear hcn
  have HB1 : Hid (Below w.heap.size w w1) := hb1
  clear hb1
  generalize cnt B n 0 = c at *
  go_wp2_with fail
  refine hfree.mono ?_
  rintro r w2 ⟨rfl, rfl⟩
  clear hfree
  go_wp2_with fail
  go_loopw [7] (fun j wr => ∃ z : Int, -1 ≤ z ∧ z ≤ n + 1 ∧ j = .int .i64 z ∧ Below w.heap.size w wr) (fun j _ => n + 2 - (intOf j + 1).toNat)
  case atStart => exact ⟨-1, by omega, by omega, rfl, HB1.out⟩
  case round =>
    obtain ⟨z, hz1, hz2, rfl, hb⟩ := hrel
    have HB : Hid (Below w.heap.size w wr) := hb
    clear hb HB1
    have hH := has_any v n B z wr (HV.out.below HB.out (Nat.le_refl _)) (by omega)
    by_cases h1 : z < 0
    · obtain rfl : z = -1 := by omega
      have e1 : (decide (0 ≤ (-1 : Int)) && decide ((-1 : Int) < n) && tk B (-1 : Int).toNat) = false := rfl
      rw [e1] at hH
      clear e1
      have hle : (-1 : Int) ≤ (n : Int) := by omega
      go_wp2_with fail
      refine hH.mono ?_
      rintro r w3 ⟨rfl, hb3⟩
      have HB3 : Hid (Below w.heap.size w w3) := HB.out.trans (hb3.mono HB.out.size)
      clear hH hb3
      go_wp2
      go_roundw
      case rel => exact ⟨0, by omega, by omega, by go_num, HB3.out⟩
      case measure => simp [intOf] <;> omega
    · obtain ⟨k, rfl⟩ : ∃ k : Nat, z = k := ⟨z.toNat, by omega⟩
      by_cases h2 : k < n
      · obtain ⟨g, c', he⟩ := row_some' HR.out (by omega)
        cases he
        have e1 : (decide (0 ≤ ((k : Nat) : Int)) && decide (((k : Nat) : Int) < n) && tk B ((k : Nat) : Int).toNat) = tk B k := by
          rw [decide_eq_true (by omega), decide_eq_true (by omega), Int.toNat_natCast]; rfl
        rw [e1] at hH
        clear e1
        have HE : Hid (∀ W, Below w.heap.size w W → W.cell? ⟨g, k, none⟩ = some (.bool (tk B k))) := fun W hW => RowB.bool (row_below' HR.out hW (Nat.le_refl _)) k h2
        generalize tk B k = t at *
        have hle : ((k : Nat) : Int) ≤ (n : Int) := by omega
        go_wp2_with fail
        refine hH.mono ?_
        rintro r w3 ⟨rfl, hb3⟩
        have HB3 : Hid (Below w.heap.size w w3) := HB.out.trans (hb3.mono HB.out.size)
        clear hH hb3
        have e0 := HE.out _ HB3.out
        have htt : (t == t) = true := by simp
        go_wp2
        go_roundw
        case rel => exact ⟨k + 1, by omega, by omega, by go_num, HB3.out⟩
        case measure => simp [intOf]; omega
      · by_cases h3 : k = n
        · subst h3
          have e1 : (decide (0 ≤ ((k : Nat) : Int)) && decide (((k : Nat) : Int) < k) && tk B ((k : Nat) : Int).toNat) = false := by
            rw [decide_eq_false (p := ((k : Nat) : Int) < k) (by omega), Bool.and_false]; rfl
          rw [e1] at hH
          clear e1
          go_wp2_with fail
          refine hH.mono ?_
          rintro r w3 ⟨rfl, hb3⟩
          have HB3 : Hid (Below w.heap.size w w3) := HB.out.trans (hb3.mono HB.out.size)
          clear hH hb3
          go_wp2
          go_roundw
          case rel => exact ⟨k + 1, by omega, by omega, by go_num, HB3.out⟩
          case measure => simp [intOf]; omega
        · have hle : ¬ ((k : Nat) : Int) ≤ (n : Int) := by omega
          clear hH
          go_wp2
          go_ret
          exact ⟨rfl, HB.out⟩

end Go.Proofs.YtkflhakgfpiiaaaDoor.Bt
