/-
  strings.Trim(s, a byte 0): it is empty just where all bytes of s are 0. Condition: s is no longer than a string can be. Go's own text is walked.
-/
import Derived.Test.YtkfphmhnaelflacGreatDoorRows
import Derived.WalkKit
import Derived.ProofKit
import Derived.Below
import Derived.Deep.QuietTactic
import Derived.BigQuiet
import Derived.Deep.RegionWith
import Derived.Laws.Strings
namespace Go.Proofs.YtkfphmhnaelflacGreatDoor.Trim
open Go.RowKit

/-- All bytes are 0. -/
def AllZ (b : ByteArray) : Prop := ∀ c ∈ b.data.toList, c = 0

def lenOf : Value → Nat | .string b => b.size | _ => 0

theorem allZ_left (u : ByteArray) (h : 0 < u.size) (h0 : u[0] = 0) : AllZ (u.extract 1 u.size) ↔ AllZ u := by
  have e : u.data.toList = u[0] :: (u.extract 1 u.size).data.toList := by
    have h' : 0 < u.data.toList.length := by simpa using h
    rw [ByteArray.data_extract, Array.toList_extract]
    simp only [List.extract_eq_take_drop]
    rw [show u.size - 1 = (u.data.toList.drop 1).length by simp, List.take_length]
    conv => lhs; rw [← List.drop_zero (l := u.data.toList), List.drop_eq_getElem_cons h']
    rfl
  unfold AllZ
  rw [e]
  simp [h0]

theorem allZ_right (u : ByteArray) (h : 0 < u.size) (h0 : u[u.size - 1] = 0) : AllZ (u.extract 0 (u.size - 1)) ↔ AllZ u := by
  have e : u.data.toList = (u.extract 0 (u.size - 1)).data.toList ++ [u[u.size - 1]] := by
    rw [ByteArray.data_extract, Array.toList_extract]
    simp only [List.extract_eq_take_drop, List.drop_zero, Nat.sub_zero]
    have h' : u.size - 1 < u.data.toList.length := by simp; omega
    have := List.take_succ_eq_append_getElem h'
    rw [show u.size - 1 + 1 = u.data.toList.length by simp; omega, List.take_length] at this
    exact this
  unfold AllZ
  rw [e]
  constructor
  · intro hz c hc
    rcases List.mem_append.1 hc with hc | hc
    · exact hz c hc
    · rw [List.mem_singleton.1 hc]; exact h0
  · intro hz c hc
    exact hz c (List.mem_append.2 (.inl hc))

set_option maxRecDepth 100000 in
set_option maxHeartbeats 400000 in
theorem right_any (s : ByteArray) (w : World) (hs : s.size ≤ 9223372036854775807) :
    Calls Tryz.prog 65 #[.string s, .int .u8 0] w fun e w' => (∃ u, e = .returned (.string u) ∧ u.size ≤ s.size ∧ (AllZ u ↔ AllZ s)) ∧ w' = w := by
  go_enter Tryz.func65, Tryz.ntmps65
  go_wp2
  go_loop [0] (fun t => ∃ u : ByteArray, t = .string u ∧ u.size ≤ s.size ∧ Hid (AllZ u ↔ AllZ s)) (fun t => lenOf t)
  case atStart => exact ⟨s, rfl, Nat.le_refl _, Iff.rfl⟩
  case round =>
    obtain ⟨u, rfl, hu, HU⟩ := hrel
    by_cases h0 : 0 < u.size
    · by_cases hz : u[u.size - 1] = 0
      · have hq : (((u[u.size - 1].toNat : Nat) : Int) == 0) = true := by rw [hz]; rfl
        have HZ : Hid (AllZ (u.extract 0 (u.size - 1)) ↔ AllZ s) := (allZ_right u h0 hz).trans HU.out
        clear hz
        go_wp2
        go_round
        case rel => exact ⟨_, rfl, by simp; omega, HZ⟩
        case measure => simp [lenOf]; omega
      · have hq : (((u[u.size - 1].toNat : Nat) : Int) == 0) = false := by
          rw [beq_eq_false_iff_ne]; intro e; exact hz (UInt8.toNat_inj.1 (by simpa using e))
        clear hz
        go_wp2
        go_ret
        exact ⟨⟨u, rfl, hu, HU.out⟩, rfl⟩
    · go_wp2
      go_ret
      exact ⟨⟨u, rfl, hu, HU.out⟩, rfl⟩

set_option maxRecDepth 100000 in
set_option maxHeartbeats 400000 in
theorem left_any (s : ByteArray) (w : World) :
    Calls Tryz.prog 64 #[.string s, .int .u8 0] w fun e w' => (∃ u, e = .returned (.string u) ∧ (u = ByteArray.empty ↔ AllZ s)) ∧ w' = w := by
  go_enter Tryz.func64, Tryz.ntmps64
  go_wp2
  go_loop [0] (fun t => ∃ u : ByteArray, t = .string u ∧ u.size ≤ s.size ∧ Hid (AllZ u ↔ AllZ s)) (fun t => lenOf t)
  case atStart => exact ⟨s, rfl, Nat.le_refl _, Iff.rfl⟩
  case round =>
    obtain ⟨u, rfl, hu, HU⟩ := hrel
    by_cases h0 : 0 < u.size
    · by_cases hz : u[0] = 0
      · have hq : (((u[0].toNat : Nat) : Int) == 0) = true := by rw [hz]; rfl
        have HZ : Hid (AllZ (u.extract 1 u.size) ↔ AllZ s) := (allZ_left u h0 hz).trans HU.out
        clear hz
        go_wp2
        go_round
        case rel => exact ⟨_, rfl, by simp; omega, HZ⟩
        case measure => simp [lenOf]; omega
      · have hq : (((u[0].toNat : Nat) : Int) == 0) = false := by
          rw [beq_eq_false_iff_ne]; intro e; exact hz (UInt8.toNat_inj.1 (by simpa using e))
        have HN : Hid (u = ByteArray.empty ↔ AllZ s) := by
          refine ⟨fun e => ?_, fun e => ?_⟩
          · rw [e] at h0; exact absurd h0 (by decide)
          · refine absurd (HU.out.2 e u[0] ?_) hz
            exact Array.mem_toList_iff.2 (Array.getElem_mem h0)
        clear hz
        go_wp2
        go_ret
        exact ⟨⟨u, rfl, HN.out⟩, rfl⟩
    · have HN : Hid (u = ByteArray.empty ↔ AllZ s) := by
        have e : u = ByteArray.empty := by
          apply ByteArray.ext
          exact Array.eq_empty_of_size_eq_zero (by show u.size = 0; omega)
        refine ⟨fun _ => HU.out.1 ?_, fun _ => e⟩
        rw [e]; intro c hc; cases hc
      go_wp2
      go_ret
      exact ⟨⟨u, rfl, HN.out⟩, rfl⟩

/-- strings.Trim(s, a byte 0). -/
theorem trim_empty (w : World) :
    Calls Tryz.prog 59 #[.string ByteArray.empty, .string ⟨#[0]⟩] w fun e w' => e = .returned (.string ByteArray.empty) ∧ w' = w := by
  have q : ByteArray.empty.toList.isEmpty = true := by rw [ByteArray.toList_eq]; rfl
  go_enter Tryz.func59, Tryz.ntmps59
  go_wp2
  go_ret
  exact ⟨rfl, rfl⟩

set_option maxRecDepth 100000 in
set_option maxHeartbeats 400000 in
theorem trim_any (s : ByteArray) (w : World) (hs : s.size ≤ 9223372036854775807) :
    Calls Tryz.prog 59 #[.string s, .string ⟨#[0]⟩] w fun e w' => (∃ u, e = .returned (.string u) ∧ (u = ByteArray.empty ↔ AllZ s)) ∧ ∃ n, w' = w.drewN n := by
  by_cases he : s = ByteArray.empty
  · subst he
    refine (trim_empty w).mono ?_
    rintro e w' ⟨rfl, rfl⟩
    refine ⟨⟨_, rfl, fun _ => ?_, fun _ => rfl⟩, 0, rfl⟩
    intro c hc; cases hc
  · have q : s.toList.isEmpty = false := by
      rw [ByteArray.toList_eq]
      cases hb : s.data.toList with
      | nil => exact absurd (ByteArray.ext (Array.toList_inj.1 (by rw [hb]; rfl))) he
      | cons a r => rfl
    clear he
    have hz : (((⟨#[0]⟩ : ByteArray)[0].toNat : Nat) : Int) = 0 := rfl
    go_enter Tryz.func59, Tryz.ntmps59
    go_wp2
    go_region_with (first
      | (go_at_call 65; refine (right_any s _ hs).mono ?_; rintro e w1 ⟨⟨u, rfl, hu, hz1⟩, rfl⟩)
      | (go_at_call 64; refine (left_any u _).mono ?_; rintro e w2 ⟨⟨v, rfl, hv⟩, rfl⟩))
    all_goals
      have HV : Hid (v = ByteArray.empty ↔ AllZ s) := hv.trans hz1
      clear hv hz1
      go_wp2
      go_ret
      exact ⟨⟨v, rfl, HV.out⟩, 1, rfl⟩

theorem drewN_below (w : World) (n : Nat) : Below w.heap.size w (w.drewN n) := ⟨rfl, rfl, rfl, Nat.le_refl _, fun _ _ => rfl⟩

end Go.Proofs.YtkfphmhnaelflacGreatDoor.Trim
