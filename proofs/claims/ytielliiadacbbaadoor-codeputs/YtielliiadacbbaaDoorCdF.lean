/-
  The program's rightForm of a program's bytes. No condition.
-/
import Derived.Test.YtielliiadacbbaaDoorCdPut
namespace Go.Proofs.YtielliiadacbbaaDoor.Cd
open Go.ChangeShapes Go.WideShapes Go.ChangeAt Go.RowKit
open Go.Proofs.YtielliiadacbbaaDoor.Nv (lt_of_heap lt_of_cell cell_of_heap free_of_heap)
open Go.Proofs.YtielliiadacbbaaDoor.Le (putF numF OutS num_any4 string_some errV getF)

set_option maxRecDepth 100000
set_option maxHeartbeats 1000000

theorem form_any (l : List In4) (h : ∀ x ∈ l, RightP x) (hl : l.length ≤ 128) (w : World) :
    Calls Tryd.prog 21 #[.string ⟨(progB l).toArray⟩] w fun r w' => r = .returned (.bool true) ∧ w' = w := by
  obtain ⟨s, hs⟩ : ∃ s : ByteArray, s = ⟨(progB l).toArray⟩ := ⟨_, rfl⟩
  rw [← hs]
  have hsz : s.size = 8 * l.length := by rw [hs]; show (progB l).toArray.size = _; rw [List.size_toArray, progB_length h]
  have HG : Hid (∀ k, k < l.length → ∀ hi, (s[8 * k + 3]'hi) = 0) := fun k hk hi => by
    subst hs
    exact s_get _ _ _ hi (byte3 h k hk)
  have HS : Hid (s.size = 8 * l.length) := hsz
  have hb : s.size ≤ 1024 := by omega
  have hm2 : ((s.size : Int) % 8 == 0) = true := by rw [beq_iff_eq, hsz]; omega
  clear hsz hs h hl
  go_enter Tryd.func21, Tryd.ntmps21
  go_wp2_with fail
  go_loopw [3] (fun i wr => wr = w ∧ ∃ k : Nat, 8 * k ≤ s.size ∧ i = .int .i64 (8 * (k : Int) + 3)) (fun i _ => 2000 - (intOf i).toNat)
  case atStart => exact ⟨rfl, 0, by omega, rfl⟩
  case round =>
    obtain ⟨rfl, k, hk, rfl⟩ := hrel
    by_cases hlt : 8 * k < s.size
    · have hkl : k < l.length := by have := HS.out; omega
      have hi : 8 * k + 3 < s.size := by have := HS.out; omega
      have h0 := HG.out k hkl hi
      have hd : decide (8 * (k : Int) + 3 < (s.size : Int)) = true := decide_eq_true (by omega)
      have hz : (((s[8 * k + 3]'hi).toNat : Int) != 0) = false := by rw [h0]; decide
      clear h0
      go_wp2_with fail
      go_roundw
      case rel => exact ⟨True.intro, k + 1, by have := HS.out; omega, by go_num⟩
      case measure => simp [intOf]; omega
    · have hd : decide (8 * (k : Int) + 3 < (s.size : Int)) = false := decide_eq_false (by omega)
      go_wp2_with fail
      go_ret
      exact ⟨rfl, rfl⟩

end Go.Proofs.YtielliiadacbbaaDoor.Cd
