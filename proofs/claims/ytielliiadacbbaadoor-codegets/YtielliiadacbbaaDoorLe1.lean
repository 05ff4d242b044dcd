import Derived.Test.YtielliiadacbbaaDoorRows
import Derived.WalkKit
import Derived.ProofKit
import Derived.OpenShut
import Derived.Below
import Derived.Laws.BytesArg
import Derived.Test.YtielliiadacbbaaDoorLeM
namespace Go.Proofs.YtielliiadacbbaaDoor.Le
open Go.ChangeShapes Go.WideShapes Go.ChangeAt Go.RowKit

set_option maxRecDepth 100000 in
set_option maxHeartbeats 400000 in
theorem isSize_any (s : Int) (w : World) :
    Calls Tryd.prog 30 #[.int .i64 s] w fun e w' => e = .returned (.bool (decide (1 ≤ s) && decide (s ≤ 7))) ∧ w' = w := by
  go_enter Tryd.func30, Tryd.ntmps30
  go_wp2
  · go_ret
    rename_i h
    exact ⟨by simp [h], rfl⟩
  · go_ret
    rename_i h
    exact ⟨by simp; omega, rfl⟩

set_option maxRecDepth 100000 in
set_option maxHeartbeats 400000 in
theorem put_yes (n s : Int) (w : World) (hs1 : 1 ≤ s) (hs7 : s ≤ 7) (h0 : 0 ≤ n) (hn : (n / 2 ^ (8 * s).toNat != 0) = false) :
    Calls Tryd.prog 24 #[.int .i64 n, .int .i64 s] w fun e w' => e = .returned (.string (strOfNums (bytesOf n s.toNat))) ∧ Below w.heap.size w w' := by
  go_enter Tryd.func24, Tryd.ntmps24
  go_wp2_with (go_at_call 30; refine (isSize_any _ _).mono ?_; rintro e w ⟨rfl, rfl⟩)
  go_loopw [22] (fun i wr => ∃ k : Nat, (k : Int) ≤ s ∧ i = .int .i64 k ∧ Below w.heap.size w wr ∧ (∀ j, j < 7 → wr.cell? ⟨w.heap.size, j, none⟩ = some (.int .u8 (if j < k then byteAt n j else 0))) ∧ (∀ j, wr.frozen? ⟨w.heap.size, j, none⟩ = false)) (fun i _ => (s - intOf i).toNat)
  case atStart =>
    refine ⟨0, by omega, rfl, (Below.refl _ _).alloc (Nat.le_refl _) _, ?_, ?_⟩
    · intro j hj
      rw [World.cell?_alloc_new]
      match j, hj with
      | 0, _ => rfl
      | 1, _ => rfl
      | 2, _ => rfl
      | 3, _ => rfl
      | 4, _ => rfl
      | 5, _ => rfl
      | 6, _ => rfl
    · intro j; go_simp
  case round =>
    obtain ⟨k, hk, rfl, hb, hc, hf⟩ := hrel
    by_cases hlt : (k : Int) < s
    · have hck := hc k (by omega)
      have hfk := hf k
      have HC : Hid (∀ j, j < 7 → wr.cell? ⟨w.heap.size, j, none⟩ = some (.int .u8 (if j < k then byteAt n j else 0))) := hc
      have HF : Hid (∀ j, wr.frozen? ⟨w.heap.size, j, none⟩ = false) := hf
      clear hc hf
      go_wp2
      go_roundw
      case rel =>
        refine ⟨k + 1, by omega, by go_num, hb.setCell (by simp) _, ?_, ?_⟩
        · intro j hj
          by_cases e : j = k
          · subst e
            rw [World.cell?_setCell_same _ _ _ hck]
            simp [byteAt]
          · rw [World.cell?_setCell_other _ _ _ _ (by intro h; simp only [Addr.mk.injEq] at h; omega), HC.out j hj]
            have : (j < k + 1) = (j < k) := by apply propext; omega
            simp only [this]
        · intro j; rw [World.frozen?_setCell]; exact HF.out j
      case measure => simp [intOf]; omega
    · have hks : (k : Int) = s := by omega
      have hU := run_convert_bytes_arg (P := Tryd.prog) wr 49 5 Tryd.underlying49 Tryd.underlying5 w.heap.size 0 k 7 (bytesOf n k) (by simp [bytesOf]) (by
        intro i hi
        have := hc i (by omega)
        rw [Nat.zero_add, this, if_pos hi]
        simp [bytesOf, hi]) 9 Tryd.underlying9
      clear hc hf
      subst hks
      go_wp2
      go_ret
      exact ⟨rfl, hb⟩

set_option maxRecDepth 100000 in
set_option maxHeartbeats 400000 in
theorem put_no (n s : Int) (w : World) (h : s < 1 ∨ 7 < s ∨ n < 0 ∨ (n / 2 ^ (8 * s).toNat != 0) = true) :
    Calls Tryd.prog 24 #[.int .i64 n, .int .i64 s] w fun e w' => e = .returned (.string ByteArray.empty) ∧ w' = w := by
  by_cases hs : 1 ≤ s ∧ s ≤ 7
  · obtain ⟨hs1, hs7⟩ := hs
    by_cases h0 : n < 0
    · go_enter Tryd.func24, Tryd.ntmps24
      go_wp2_with (go_at_call 30; refine (isSize_any _ _).mono ?_; rintro e w ⟨rfl, rfl⟩)
      go_ret
      exact ⟨rfl, rfl⟩
    · have hn : (n / 2 ^ (8 * s).toNat != 0) = true := by rcases h with h | h | h | h; omega; omega; omega; exact h
      have h0' : 0 ≤ n := by omega
      clear h
      go_enter Tryd.func24, Tryd.ntmps24
      go_wp2_with (go_at_call 30; refine (isSize_any _ _).mono ?_; rintro e w ⟨rfl, rfl⟩)
      go_ret
      exact ⟨rfl, rfl⟩
  · have hd : (decide (1 ≤ s) && decide (s ≤ 7)) = false := by simp; omega
    clear h hs
    go_enter Tryd.func24, Tryd.ntmps24
    go_wp2_with (go_at_call 30; refine (isSize_any _ _).mono ?_; rintro e w ⟨rfl, rfl⟩)
    go_ret
    exact ⟨rfl, rfl⟩

theorem ret_int {k : IntKind} {a b : Int} (h : a = b) : Ending.returned (.int k a) = .returned (.int k b) := by rw [h]

set_option maxRecDepth 100000 in
set_option maxHeartbeats 400000 in
theorem get_yes (b : ByteArray) (w : World) (h : b.size ≤ 7) :
    Calls Tryd.prog 29 #[.string b] w fun e w' => e = .returned (.int .i64 (leVal b.data.toList)) ∧ w' = w := by
  go_enter Tryd.func29, Tryd.ntmps29
  go_wp2
  go_loop [3, 10] (fun n i => ∃ k : Nat, k ≤ b.size ∧ i = .int .i64 k ∧ n = .int .i64 (leVal (b.data.toList.take k))) (fun _ i => b.size - (intOf i).toNat)
  case atStart => exact ⟨0, Nat.zero_le _, rfl, rfl⟩
  case round =>
    obtain ⟨k, hk, rfl, rfl⟩ := hrel
    by_cases hlt : k < b.size
    · go_wp2
      go_round
      case rel =>
        refine ⟨k + 1, by omega, by go_num, ?_⟩
        have hv := leVal_lt (b.data.toList.take k)
        rw [List.length_take_of_le (by simp; omega)] at hv
        rw [or_step _ _ k (by omega) hv (b[k].toNat_lt), leVal_take b k hlt]
      case measure => simp [intOf]; omega
    · go_wp2
      go_ret
      exact ⟨ret_int (by rw [List.take_of_length_le (by simp; omega)]), rfl⟩

set_option maxRecDepth 100000 in
set_option maxHeartbeats 400000 in
theorem get_no (b : ByteArray) (w : World) (h : 7 < b.size) :
    Calls Tryd.prog 29 #[.string b] w fun e w' => e = .returned (.int .i64 0) ∧ w' = w := by
  go_enter Tryd.func29, Tryd.ntmps29
  go_wp2
  go_ret
  exact ⟨rfl, rfl⟩

set_option maxRecDepth 100000 in
set_option maxHeartbeats 400000 in
theorem refget_yes (b : ByteArray) (w : World) (h : b.size ≤ 7) :
    Calls Tryd.prog 23 #[.string b] w fun e w' => e = .returned (.int .i64 (leVal b.data.toList)) ∧ w' = w := by
  go_enter Tryd.func23, Tryd.ntmps23
  go_wp2
  go_loop [3, 4] (fun n i => ∃ k : Nat, k ≤ b.size ∧ i = .int .i64 ((k : Int) - 1) ∧ n = .int .i64 (leVal (b.data.toList.drop k))) (fun _ i => (intOf i + 1).toNat)
  case atStart => exact ⟨b.size, Nat.le_refl _, rfl, by rw [List.drop_of_length_le (by simp)]; rfl⟩
  case round =>
    obtain ⟨k, hk, rfl, rfl⟩ := hrel
    by_cases hlt : 0 < k
    · obtain ⟨k, rfl⟩ : ∃ j, k = j + 1 := ⟨k - 1, by omega⟩
      go_wp2
      go_round
      case rel =>
        refine ⟨k, by omega, rfl, ?_⟩
        have hv := leVal_lt (b.data.toList.drop (k + 1))
        have hp := pow8_le (b.data.toList.drop (k + 1)).length 6 (by simp; omega)
        rw [add_step _ _ (by omega) (b[k].toNat_lt), ← leVal_drop b k (by omega)]
      case measure => simp [intOf]
    · go_wp2
      go_ret
      exact ⟨ret_int (by rw [show k = 0 by omega]; rfl), rfl⟩

set_option maxRecDepth 100000 in
set_option maxHeartbeats 400000 in
theorem refget_no (b : ByteArray) (w : World) (h : 7 < b.size) :
    Calls Tryd.prog 23 #[.string b] w fun e w' => e = .returned (.int .i64 0) ∧ w' = w := by
  go_enter Tryd.func23, Tryd.ntmps23
  go_wp2
  go_ret
  exact ⟨rfl, rfl⟩

theorem conv_one (w : World) (x : Int) : Sem.run Tryd.prog (convert 49 9 (Value.slice (some ⟨w.heap.size, 0, none⟩) 1 1)) (w.alloc (Obj.cells #[Value.int IntKind.u8 x] 5)) = .ok (.string (strOfNums [x])) (w.alloc (Obj.cells #[Value.int IntKind.u8 x] 5)) :=
  run_convert_bytes_arg (P := Tryd.prog) _ 49 5 Tryd.underlying49 Tryd.underlying5 w.heap.size 0 1 1 [x] rfl (by
    intro i hi
    rw [World.cell?_alloc_new]
    obtain rfl : i = 0 := by omega
    rfl) 9 Tryd.underlying9

set_option maxRecDepth 100000 in
set_option maxHeartbeats 400000 in
theorem refput_yes (n s : Int) (w : World) (hs1 : 1 ≤ s) (hs7 : s ≤ 7) (h0 : 0 ≤ n) (hn : n ≤ 9223372036854775807) :
    Calls Tryd.prog 19 #[.int .i64 n, .int .i64 s] w fun e w' => e = .returned (.string (putF n s)) ∧ Below w.heap.size w w' := by
  go_enter Tryd.func19, Tryd.ntmps19
  go_wp2
  go_loopw [0, 5, 6] (fun m t i wr => ∃ (k : Nat) (m' : Int), (k : Int) ≤ s ∧ i = .int .i64 k ∧ t = .string (strOfNums (bytesOf n k)) ∧ m = .int .i64 m' ∧ 0 ≤ m' ∧ m' ≤ 9223372036854775807 ∧ Hid (m' = n / 2 ^ (8 * k)) ∧ Below w.heap.size w wr) (fun _ _ i _ => (s - intOf i).toNat)
  case atStart => exact ⟨0, n, by omega, rfl, rfl, rfl, h0, hn, show n = _ by simp, Below.refl _ _⟩
  case round =>
    obtain ⟨k, m, hk, rfl, rfl, rfl, hm0, hm1, HM, hb⟩ := hrel
    by_cases hlt : (k : Int) < s
    · have hc := conv_one wr
      have hz1 : (strOfNums (bytesOf n k)).size = k := by simp [strOfNums_size, bytesOf]
      have hz2 : ∀ x, (strOfNums [x]).size = 1 := by intro x; simp [strOfNums_size]
      have hk7 : k ≤ 7 := by omega
      go_wp2
      go_roundw
      case rel =>
        refine ⟨k + 1, m / 256, by omega, by go_num, ?_, ?_, by omega, by omega, ?_, hb.alloc hb.size _⟩
        · rw [HM.out, bytes_step]
        · go_num
        · show m / 256 = _
          rw [HM.out, div_step]
      case measure => simp [intOf]; omega
    · obtain rfl : (k : Int) = s := by omega
      by_cases hp : 0 < m
      · go_wp2
        go_ret
        exact ⟨by rw [putF_no (by rw [Int.toNat_natCast, ← HM.out]; omega)]; rfl, hb⟩
      · go_wp2
        go_ret
        exact ⟨by rw [putF_yes hs1 hs7 h0 (by rw [Int.toNat_natCast, ← HM.out]; omega)]; rfl, hb⟩

set_option maxRecDepth 100000 in
set_option maxHeartbeats 400000 in
theorem refput_no (n s : Int) (w : World) (h : s < 1 ∨ 7 < s ∨ n < 0) :
    Calls Tryd.prog 19 #[.int .i64 n, .int .i64 s] w fun e w' => e = .returned (.string ByteArray.empty) ∧ w' = w := by
  by_cases h1 : s < 1
  · clear h
    go_enter Tryd.func19, Tryd.ntmps19
    go_wp2
    go_ret
    exact ⟨rfl, rfl⟩
  · by_cases h7 : 7 < s
    · clear h
      go_enter Tryd.func19, Tryd.ntmps19
      go_wp2
      go_ret
      exact ⟨rfl, rfl⟩
    · have h0 : n < 0 := by omega
      clear h
      go_enter Tryd.func19, Tryd.ntmps19
      go_wp2
      go_ret
      exact ⟨rfl, rfl⟩

/-- Put answers the number's bytes. -/
theorem put_any (n s : Int) (w : World) :
    Calls Tryd.prog 24 #[.int .i64 n, .int .i64 s] w fun e w' => e = .returned (.string (putF n s)) ∧ Below w.heap.size w w' := by
  by_cases hv : 1 ≤ s ∧ s ≤ 7 ∧ 0 ≤ n ∧ n / 2 ^ (8 * s.toNat) = 0
  · obtain ⟨h1, h7, h0, hd⟩ := hv
    have e : (8 * s).toNat = 8 * s.toNat := by omega
    refine (put_yes n s w h1 h7 h0 (by rw [e, hd]; rfl)).mono ?_
    rintro e w' ⟨rfl, hb⟩
    exact ⟨by rw [putF_yes h1 h7 h0 hd], hb⟩
  · refine (put_no n s w ?_).mono ?_
    · by_cases h1 : s < 1; exact .inl h1
      by_cases h7 : 7 < s; exact .inr (.inl h7)
      by_cases h0 : n < 0; exact .inr (.inr (.inl h0))
      refine .inr (.inr (.inr ?_))
      have e : (8 * s).toNat = 8 * s.toNat := by omega
      rw [e, bne_iff_ne]
      intro hd
      exact hv ⟨by omega, by omega, by omega, hd⟩
    · rintro e w' ⟨rfl, rfl⟩
      exact ⟨by rw [putF_no hv], Below.refl _ _⟩

/-- The document's Put answers the number's bytes. -/
theorem refput_any (n s : Int) (w : World) (hn : n ≤ 9223372036854775807) :
    Calls Tryd.prog 19 #[.int .i64 n, .int .i64 s] w fun e w' => e = .returned (.string (putF n s)) ∧ Below w.heap.size w w' := by
  by_cases hv : 1 ≤ s ∧ s ≤ 7 ∧ 0 ≤ n
  · exact refput_yes n s w hv.1 hv.2.1 hv.2.2 hn
  · refine (refput_no n s w (by omega)).mono ?_
    rintro e w' ⟨rfl, rfl⟩
    exact ⟨by rw [putF_no (fun h => hv ⟨h.1, h.2.1, h.2.2.1⟩)], Below.refl _ _⟩

/-- Get answers the bytes' number. -/
theorem get_any (b : ByteArray) (w : World) :
    Calls Tryd.prog 29 #[.string b] w fun e w' => e = .returned (.int .i64 (getF b)) ∧ w' = w := by
  by_cases h : b.size ≤ 7
  · rw [getF_yes h]; exact get_yes b w h
  · rw [getF_no (by omega)]; exact get_no b w (by omega)

/-- The document's Get answers the bytes' number. -/
theorem refget_any (b : ByteArray) (w : World) :
    Calls Tryd.prog 23 #[.string b] w fun e w' => e = .returned (.int .i64 (getF b)) ∧ w' = w := by
  by_cases h : b.size ≤ 7
  · rw [getF_yes h]; exact refget_yes b w h
  · rw [getF_no (by omega)]; exact refget_no b w (by omega)

end Go.Proofs.YtielliiadacbbaaDoor.Le
