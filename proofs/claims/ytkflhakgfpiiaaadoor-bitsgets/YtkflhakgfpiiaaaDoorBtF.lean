/-
  How many numbers are free from one on; a new set. No condition.
-/
import Derived.Test.YtkflhakgfpiiaaaDoorBtT
namespace Go.Proofs.YtkflhakgfpiiaaaDoor.Bt
open Go.ChangeShapes Go.WideShapes Go.ChangeAt Go.RowKit

set_option maxRecDepth 100000
set_option maxHeartbeats 1000000

theorem free_any (v : Value) (n : Nat) (B : Nat → Nat) (i : Nat) (w : World) (h : SetV w v n B) (hi : i ≤ n) :
    Calls Tryd.prog 45 #[v, .int .i64 i] w fun r w' => r = .returned (.int .i64 (runF B (n - i) i)) ∧ Below w.heap.size w w' := by
  have hmx := h.max
  have hend := fun w h => end_any v n B w h
  have hhas := fun w h j hj => has_any v n B j w h hj
  have hv : v = .pointer none ∨ ∃ b, v = .pointer (some ⟨b, 0, none⟩) := by
    rcases h with ⟨rfl, _⟩ | ⟨b, rfl, _⟩
    · exact .inl rfl
    · exact .inr ⟨b, rfl⟩
  have HV : Hid (SetV w v n B) := h
  clear h
  have hsub : ((n : Int) - (i : Int)) = ((n - i : Nat) : Int) := by omega
  rcases hv with rfl | ⟨b, rfl⟩
  all_goals
    go_enter Tryd.func45, Tryd.ntmps45
    go_wp2_with fail
    refine (hend _ HV.out).mono ?_
    rintro r w1 ⟨rfl, rfl⟩
    go_wp2
    go_loopw [10] (fun j wr => ∃ k : Nat, k ≤ n - i ∧ j = .int .i64 k ∧ (∀ x, x < k → tk B (i + x) = false) ∧ Below w1.heap.size w1 wr) (fun j _ => n - i - (intOf j).toNat)
    case atStart => exact ⟨0, Nat.zero_le _, rfl, fun x h => absurd h (Nat.not_lt_zero _), Below.refl _ _⟩
    case round =>
      obtain ⟨k, hk, rfl, hall, hb⟩ := hrel
      have HA : Hid (∀ x, x < k → tk B (i + x) = false) := hall
      have HB : Hid (Below w1.heap.size w1 wr) := hb
      clear hall hb
      by_cases hlt : k < n - i
      · have hH := hhas wr (HV.out.below HB.out (Nat.le_refl _)) ((i : Int) + (k : Int)) (by omega)
        have e1 : (decide (0 ≤ ((i : Nat) : Int) + ((k : Nat) : Int)) && decide (((i : Nat) : Int) + ((k : Nat) : Int) < n) && tk B (((i : Nat) : Int) + ((k : Nat) : Int)).toNat) = tk B (i + k) := by
          rw [decide_eq_true (by omega), decide_eq_true (by omega), show (((i : Nat) : Int) + ((k : Nat) : Int)).toNat = i + k by omega]; rfl
        rw [e1] at hH
        clear e1 hhas
        go_wp2_with fail
        refine hH.mono ?_
        rintro r w2 ⟨rfl, hb2⟩
        have HB2 : Hid (Below w1.heap.size w1 w2) := HB.out.trans (hb2.mono HB.out.size)
        clear hH hb2
        cases hs : tk B (i + k)
        · have HN : Hid (∀ x, x < k + 1 → tk B (i + x) = false) := by
            intro x hx
            by_cases hxk : x < k
            · exact HA.out x hxk
            · rw [show x = k by omega]; exact hs
          clear hs
          go_wp2
          go_roundw
          case rel => exact ⟨k + 1, by omega, by go_num, HN.out, HB2.out⟩
          case measure => simp [intOf]; omega
        · have HF : Hid (runF B (n - i) i = k) := runF_eq B (n - i) i k (by omega) HA.out (fun _ => hs)
          clear hs
          go_wp2
          go_ret
          exact ⟨by rw [HF.out]; rfl, HB2.out⟩
      · obtain rfl : k = n - i := by omega
        have HF : Hid (runF B (n - i) i = n - i) := runF_eq B (n - i) i (n - i) (Nat.le_refl _) HA.out (fun h => absurd h (Nat.lt_irrefl _))
        clear hhas
        go_wp2_with fail
        refine (hend _ (HV.out.below HB.out (Nat.le_refl _))).mono ?_
        rintro r w2 ⟨rfl, rfl⟩
        clear hend
        go_wp2
        go_ret
        refine ⟨?_, HB.out⟩
        rw [HF.out, ← hsub]
        rfl

end Go.Proofs.YtkflhakgfpiiaaaDoor.Bt
