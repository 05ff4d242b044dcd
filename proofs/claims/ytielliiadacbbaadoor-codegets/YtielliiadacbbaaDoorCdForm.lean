/-
  The program's rightForm of any bytes. Condition: they are at most 100000.
-/
import Derived.Test.YtielliiadacbbaaDoorCdQ
import Derived.Test.YtielliiadacbbaaDoorCdF
namespace Go.Proofs.YtielliiadacbbaaDoor.Cd
open Go.ChangeShapes Go.WideShapes Go.ChangeAt Go.RowKit

set_option maxRecDepth 100000
set_option maxHeartbeats 1000000

/-- Have bytes the form of a program? -/
def FormP (s : ByteArray) : Prop := s.size % 8 = 0 ∧ ∀ k, 8 * k + 3 < s.size → byteI s (8 * k + 3) = 0
theorem FormP.nought {s : ByteArray} (h : FormP s) (k : Nat) (hi : 8 * k + 3 < s.size) : s[8 * k + 3]'hi = 0 := by
  have h0 := h.2 k hi
  rw [byteI_yes hi] at h0
  exact UInt8.toNat_inj.1 (Int.ofNat.inj h0)

theorem form_all (s : ByteArray) (hb : s.size ≤ 100000) (w : World) :
    Calls Tryd.prog 21 #[.string s] w fun r w' => (∃ b, r = .returned (.bool b) ∧ (b = true ↔ FormP s)) ∧ w' = w := by
  go_enter Tryd.func21, Tryd.ntmps21
  go_wp2_with fail
  go_loopw [3] (fun i wr => wr = w ∧ ∃ k : Nat, 8 * k ≤ s.size + 7 ∧ i = .int .i64 (8 * (k : Int) + 3) ∧ ∀ j, j < k → byteI s (8 * j + 3) = 0) (fun i _ => 200000 - (intOf i).toNat)
  case atStart => exact ⟨rfl, 0, by omega, rfl, fun j hj => by omega⟩
  case round =>
    obtain ⟨rfl, k, hk, rfl, hz⟩ := hrel
    have HZ : Hid (∀ j, j < k → byteI s (8 * j + 3) = 0) := hz
    clear hz
    by_cases hlt : 8 * k + 3 < s.size
    · have hd : decide (8 * (k : Int) + 3 < (s.size : Int)) = true := decide_eq_true (by omega)
      by_cases h0 : byteI s (8 * k + 3) = 0
      · have hz1 : (((s[8 * k + 3]'hlt).toNat : Int) != 0) = false := by rw [← byteI_yes hlt, h0]; rfl
        have H0 : Hid (byteI s (8 * k + 3) = 0) := h0
        clear h0
        go_wp2_with fail
        go_roundw
        case rel => exact ⟨True.intro, k + 1, by omega, by go_num, fun j hj => if e : j = k then by rw [e]; exact H0.out else HZ.out j (by omega)⟩
        case measure => simp [intOf]; omega
      · have hz1 : (((s[8 * k + 3]'hlt).toNat : Int) != 0) = true := by rw [← byteI_yes hlt]; exact bne_iff_ne.2 h0
        have H0 : Hid (byteI s (8 * k + 3) ≠ 0) := h0
        clear h0
        go_wp2_with fail
        go_ret
        exact ⟨⟨false, rfl, fun h => (Bool.false_ne_true h).elim, fun h => absurd (h.2 k hlt) H0.out⟩, rfl⟩
    · have hd : decide (8 * (k : Int) + 3 < (s.size : Int)) = false := decide_eq_false (by omega)
      have HN : Hid (∀ j, 8 * j + 3 < s.size → byteI s (8 * j + 3) = 0) := fun j hj => HZ.out j (by omega)
      by_cases hm : s.size % 8 = 0
      · have hm2 : ((s.size : Int) % 8 == 0) = true := by rw [beq_iff_eq]; omega
        go_wp2_with fail
        go_ret
        exact ⟨⟨true, rfl, fun _ => ⟨hm, HN.out⟩, fun _ => rfl⟩, rfl⟩
      · have hm2 : ((s.size : Int) % 8 == 0) = false := by rw [beq_eq_false_iff_ne]; omega
        go_wp2_with fail
        go_ret
        exact ⟨⟨false, rfl, fun h => (Bool.false_ne_true h).elim, fun h => absurd h.1 hm⟩, rfl⟩

end Go.Proofs.YtielliiadacbbaaDoor.Cd
