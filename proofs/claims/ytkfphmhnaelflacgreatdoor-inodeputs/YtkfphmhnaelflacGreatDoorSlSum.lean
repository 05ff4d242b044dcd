/-
  mark.Sum and the document's, by their contracts: both are the sum of the bytes. Condition: the table of four steps holds what its initialiser lays.
-/
import Derived.Test.YtkfphmhnaelflacGreatDoorLe1
import Derived.Test.YtkfphmhnaelflacGreatDoorSlS
namespace Go.Proofs.YtkfphmhnaelflacGreatDoor.Mk
open Go.ChangeShapes Go.WideShapes Go.ChangeAt Go.RowKit
open Go.Proofs.YtkfphmhnaelflacGreatDoor.Le (take_snoc ret_int)

/-- The table lies as its initialiser lays it. -/
def NibAt (w : World) : Prop := ∀ i, i < 16 → w.cell? ⟨0, i, none⟩ = some (.int .u32 (tabN i))

theorem NibAt.lt {w : World} (h : NibAt w) : 0 < w.heap.size := by
  have := h 0 (by decide)
  unfold World.cell? at this
  by_cases hlt : 0 < w.heap.size
  · exact hlt
  · simp [Array.getElem?_eq_none (Nat.le_of_not_lt hlt)] at this
theorem NibAt.below {w w' : World} (h : NibAt w) (hb : Below w.heap.size w w') : NibAt w' := fun i hi => (hb.cell (p := ⟨0, i, none⟩) h.lt).trans (h i hi)

theorem tabN_lt : ∀ i : Fin 16, tabN i.1 < 4294967296 := by decide +kernel

theorem xor_u32 (r c : Nat) (hr : r < 4294967296) (hc : c < 4294967296) : ∃ x : Nat, bits .xor .u32 (r : Int) (c : Int) = (x : Int) ∧ x < 4294967296 ∧ x = r ^^^ c :=
  ⟨_, u32_xor_nat r c hr hc, Nat.xor_lt_two_pow (n := 32) hr hc, rfl⟩

theorem not_u32 (r : Nat) (hr : r < 4294967296) : bits .xor .u32 IntKind.u32.max (r : Int) = ((4294967295 - r : Nat) : Int) := by
  have h := u32_xor_nat 4294967295 r (by decide) hr
  rw [not_xor r hr, ← h]; rfl

/-- Four steps, as the code makes them. -/
theorem four (x : Nat) (hx : x < 4294967296) (w : World) (hn : NibAt w) : ∃ i t y : Nat, bits .and .u32 (x : Int) 15 = (i : Int) ∧ i < 16 ∧ w.cell? ⟨0, i, none⟩ = some (.int .u32 (t : Int)) ∧ bits .xor .u32 ((x : Int) / 16) (t : Int) = (y : Int) ∧ y < 4294967296 ∧ y = stepN 4 x := by
  have hi : x % 16 < 16 := Nat.mod_lt _ (by decide)
  have ht := tabN_lt ⟨x % 16, hi⟩
  refine ⟨x % 16, tabN (x % 16), x / 16 ^^^ tabN (x % 16), ?_, hi, hn _ hi, ?_, Nat.xor_lt_two_pow (n := 32) (by omega) ht, (step4 x).symm⟩
  · have := u32_and_nat x 15 hx (by decide)
    rw [nat_mask4] at this; exact this
  · have := u32_xor_nat (x / 16) (tabN (x % 16)) (by omega) ht
    rw [← this]; rfl

set_option maxRecDepth 100000 in
set_option maxHeartbeats 400000 in
theorem sum_any (s : ByteArray) (w : World) (hs : s.size ≤ maxLen) (hn : NibAt w) :
    Calls Tryz.prog 51 #[.string s] w fun e w' => e = .returned (.int .u32 (sumN s.data.toList)) ∧ w' = w := by
  unfold maxLen at hs
  have HN : Hid (NibAt w) := hn
  clear hn
  go_enter Tryz.func51, Tryz.ntmps51
  go_wp2
  go_loop [3, 7] (fun r i => ∃ k : Nat, k ≤ s.size ∧ i = .int .i64 k ∧ r = .int .u32 (crcL (s.data.toList.take k) 4294967295)) (fun _ i => s.size - (intOf i).toNat)
  case atStart => exact ⟨0, Nat.zero_le _, rfl, rfl⟩
  case round =>
    obtain ⟨k, hk, rfl, rfl⟩ := hrel
    by_cases hlt : k < s.size
    · have hr := crcL_lt (s.data.toList.take k) 4294967295 (by decide)
      have HS : Hid (crcL (s.data.toList.take (k + 1)) 4294967295 = crcB (crcL (s.data.toList.take k) 4294967295) s[k].toNat) := by
        show _ = _
        rw [take_snoc s k hlt, crcL_snoc]
      generalize crcL (s.data.toList.take k) 4294967295 = r at *
      have hc := s[k].toNat_lt
      obtain ⟨x, e1, hx, dx⟩ := xor_u32 r s[k].toNat hr (by omega)
      have e0 : (s[k].toNat : Int) % 4294967296 = s[k].toNat := by omega
      obtain ⟨i, t, y, e2, hi, e3, e4, hy, dy⟩ := four x hx w HN.out
      obtain ⟨j, u, z, e5, hj, e6, e7, hz, dz⟩ := four y hy w HN.out
      have HZ : Hid (z = crcB r s[k].toNat) := by
        show z = stepN 8 _
        rw [← dx, dz, dy, ← stepN_add]
      clear dx dy dz hr hc
      go_wp2
      go_round
      case rel => exact ⟨k + 1, by omega, by go_num, by rw [HS.out, ← HZ.out]⟩
      case measure => simp [intOf]; omega
    · have hr := crcL_lt s.data.toList 4294967295 (by decide)
      have hk2 : s.data.toList.take k = s.data.toList := List.take_of_length_le (by simp; omega)
      rw [hk2]
      clear hk2
      have HD : Hid (sumN s.data.toList = 4294967295 - crcL s.data.toList 4294967295) := rfl
      generalize crcL s.data.toList 4294967295 = r at *
      go_wp2
      go_ret
      exact ⟨ret_int (by rw [HD.out, not_u32 r hr]), rfl⟩

/-- The document's register behind k bytes and b bits. -/
theorem refbit (x c b : Nat) (hx : x < 4294967296) (hc : c < 256) : ∃ d m y : Nat, (c : Int) / 2 ^ b = (d : Int) ∧ bits .xor .u32 (x : Int) (d : Int) = (m : Int) ∧ m < 4294967296 ∧ bits .xor .u32 ((x : Int) / 2) 2197175160 = (y : Int) ∧ y < 4294967296 ∧ y = x / 2 ^^^ 2197175160 ∧ m = x ^^^ c / 2 ^ b := by
  have hd : c / 2 ^ b < 4294967296 := Nat.lt_of_le_of_lt (Nat.div_le_self _ _) (by omega)
  refine ⟨c / 2 ^ b, x ^^^ c / 2 ^ b, x / 2 ^^^ 2197175160, by simp, u32_xor_nat _ _ hx hd, Nat.xor_lt_two_pow (n := 32) hx hd, ?_, Nat.xor_lt_two_pow (n := 32) (by omega) (by decide), rfl, rfl⟩
  have := u32_xor_nat (x / 2) 2197175160 (by omega) (by decide)
  rw [← this]; rfl

set_option maxRecDepth 100000 in
set_option maxHeartbeats 400000 in
theorem refsum_any (s : ByteArray) (w : World) (hs : s.size ≤ maxLen) :
    Calls Tryz.prog 32 #[.string s] w fun e w' => e = .returned (.int .u32 (sumN s.data.toList)) ∧ w' = w := by
  unfold maxLen at hs
  go_enter Tryz.func32, Tryz.ntmps32
  go_wp2
  go_loop [3, 4] (fun r i => ∃ k : Nat, k ≤ s.size ∧ i = .int .i64 k ∧ r = .int .u32 (crcL (s.data.toList.take k) 4294967295)) (fun _ i => s.size - (intOf i).toNat)
  case atStart => exact ⟨0, Nat.zero_le _, rfl, rfl⟩
  case round =>
    obtain ⟨k, hk, rfl, rfl⟩ := hrel
    by_cases hlt : k < s.size
    · have hr := crcL_lt (s.data.toList.take k) 4294967295 (by decide)
      have HS : Hid (crcL (s.data.toList.take (k + 1)) 4294967295 = crcB (crcL (s.data.toList.take k) 4294967295) s[k].toNat) := by
        show _ = _
        rw [take_snoc s k hlt, crcL_snoc]
      generalize crcL (s.data.toList.take k) 4294967295 = r at *
      have hc := s[k].toNat_lt
      go_wp2
      go_loop [3, 5] (fun x i => ∃ b y : Nat, b ≤ 8 ∧ i = .int .i64 b ∧ x = .int .u32 y ∧ y < 4294967296 ∧ Hid (stepN b (r ^^^ s[k].toNat) = y ^^^ s[k].toNat / 2 ^ b)) (fun _ i => 8 - (intOf i).toNat)
      case atStart => exact ⟨0, r, by decide, rfl, rfl, hr, show _ = _ by simp [stepN]⟩
      case round =>
        obtain ⟨b, y, hb, rfl, rfl, hy, HY⟩ := hrel
        by_cases hb8 : b < 8
        · have HT : Hid (stepN (b + 1) (r ^^^ s[k].toNat) = _) := ref_step r y s[k].toNat b HY.out
          obtain ⟨d, m, z, e1, e2, hm, e3, hz, dz, dm⟩ := refbit y s[k].toNat b hy hc
          have e0 : (s[k].toNat : Int) % 4294967296 = s[k].toNat := by omega
          rw [← dm] at HT
          have HDZ : Hid (z = y / 2 ^^^ 2197175160) := dz
          clear dz dm HY
          by_cases hm2 : m % 2 = 1
          · rw [if_pos hm2, ← HDZ.out] at HT
            have hq : ((m : Int) % 2 == 1) = true := by simp; omega
            go_wp2
            go_round
            case rel => exact ⟨b + 1, z, by omega, by go_num, rfl, hz, HT⟩
            case measure => simp [intOf]; omega
          · rw [if_neg hm2, Nat.xor_zero] at HT
            have hq : ((m : Int) % 2 == 1) = false := by simp; omega
            go_wp2
            go_round
            case rel => exact ⟨b + 1, y / 2, by omega, by go_num, by go_num, by omega, HT⟩
            case measure => simp [intOf]; omega
        · obtain rfl : b = 8 := by omega
          have HZ : Hid (y = crcB r s[k].toNat) := by
            have := HY.out
            rw [Nat.div_eq_of_lt (by omega : s[k].toNat < 2 ^ 8), Nat.xor_zero] at this
            exact this.symm
          clear HY
          go_wp2
          go_round
          case rel => exact ⟨k + 1, by omega, by go_num, by rw [HS.out, ← HZ.out]⟩
          case measure => simp [intOf]; omega
    · have hr := crcL_lt s.data.toList 4294967295 (by decide)
      have hk2 : s.data.toList.take k = s.data.toList := List.take_of_length_le (by simp; omega)
      rw [hk2]
      clear hk2
      have HD : Hid (sumN s.data.toList = 4294967295 - crcL s.data.toList 4294967295) := rfl
      generalize crcL s.data.toList 4294967295 = r at *
      go_wp2
      go_ret
      exact ⟨ret_int (by rw [HD.out]; omega), rfl⟩

end Go.Proofs.YtkfphmhnaelflacGreatDoor.Mk
