/-
  The document's digits of a number. Condition: the number is an int.
-/
import Derived.Test.YtocfhejjmefmcaaDoorFaWord
import Derived.Lib.ItoaMem
import Derived.Laws.BytesArg
namespace Go.Proofs.YtocfhejjmefmcaaDoor.Fa
open Go.ChangeShapes Go.WideShapes Go.ChangeAt Go.RowKit Go.Proofs.Fa

theorem ba_ext {a b : ByteArray} (h : a.data.toList = b.data.toList) : a = b := ByteArray.ext (Array.toList_inj.1 h)

theorem dig_small {n : Int} (h0 : 0 ≤ n) (h1 : n < 10) : strOfNums [48 + n] = itoaB n := by
  apply ba_ext
  unfold itoaB Lib.itoa
  rw [if_neg (by omega), Lib.decDigits, dif_pos (by omega)]
  have : (48 + n).toNat = 48 + n.toNat := by omega
  simp [strOfNums, this]
theorem dig_minus {n : Int} (h0 : n < 0) : (⟨#[45]⟩ : ByteArray) ++ itoaB (-n) = itoaB n := by
  apply ba_ext
  unfold itoaB Lib.itoa
  rw [if_neg (by omega), if_pos h0]
  have : (-n).toNat = n.natAbs := by omega
  rw [ByteArray.data_append]
  simp [this]
theorem dig_pos {n : Int} (h : 10 ≤ n) : itoaB (n / 10) ++ itoaB (n % 10) = itoaB n := by
  apply ba_ext
  unfold itoaB Lib.itoa
  rw [if_neg (by omega), if_neg (by omega), if_neg (by omega), ByteArray.data_append]
  have e1 : (n / 10).toNat = n.toNat / 10 := by omega
  have e2 : (n % 10).toNat = n.toNat % 10 := by omega
  rw [e1, e2, Lib.decDigits.eq_1 n.toNat, dif_neg (by omega), Lib.decDigits.eq_1 (n.toNat % 10), dif_pos (by omega)]
  simp
theorem dig_neg {n : Int} (h : n ≤ -10) : itoaB (n.tdiv 10) ++ itoaB (-(n.tmod 10)) = itoaB n := by
  have d1 : n.tdiv 10 = -(((-n) / 10 : Int)) := by rw [show n = -(-n) by omega, Int.neg_tdiv, Int.tdiv_eq_ediv_of_nonneg (by omega)]; simp
  have d2 : n.tmod 10 = -(((-n) % 10 : Int)) := by rw [show n = -(-n) by omega, Int.neg_tmod, Int.tmod_eq_emod_of_nonneg (by omega)]; simp
  apply ba_ext
  rw [d1, d2]
  unfold itoaB Lib.itoa
  rw [if_pos (by omega), if_neg (by omega), if_pos (by omega), ByteArray.data_append]
  have e1 : (-((-n) / 10)).natAbs = n.natAbs / 10 := by omega
  have e2 : (- -((-n) % 10)).toNat = n.natAbs % 10 := by omega
  rw [e1, e2, Lib.decDigits.eq_1 n.natAbs, dif_neg (by omega), Lib.decDigits.eq_1 (n.natAbs % 10), dif_pos (by omega)]
  simp
theorem itoaB_size (n : Int) (h0 : -9223372036854775808 ≤ n) (h1 : n ≤ 9223372036854775807) : (itoaB n).size ≤ 21 := by
  have := Lib.itoa_length_le n h0 h1
  unfold itoaB; simpa [ByteArray.size] using this

theorem conv1 (w : World) (x : Int) : Sem.run Tryd.prog (convert 90 9 (Value.slice (some ⟨w.heap.size, 0, none⟩) 1 1)) (w.alloc (Obj.cells #[Value.int IntKind.u8 x] 5)) = .ok (.string (strOfNums [x])) (w.alloc (Obj.cells #[Value.int IntKind.u8 x] 5)) :=
  run_convert_bytes_arg (P := Tryd.prog) _ 90 5 Tryd.underlying90 Tryd.underlying5 w.heap.size 0 1 1 [x] rfl (by
    intro i hi
    rw [World.cell?_alloc_new]
    obtain rfl : i = 0 := by omega
    rfl) 9 Tryd.underlying9

set_option maxRecDepth 100000
set_option maxHeartbeats 1000000
theorem digits_small (n : Int) (w : World) (h0 : 0 ≤ n) (h1 : n < 10) :
    Calls Tryd.prog 26 #[.int .i64 n] w fun e w' => e = .returned (.string (itoaB n)) ∧ Below w.heap.size w w' := by
  have hc := conv1 w
  have hd := dig_small h0 h1
  go_enter Tryd.func26, Tryd.ntmps26
  go_wp2
  go_ret
  exact ⟨by rw [← hd]; rfl, (Below.refl _ _).alloc (Nat.le_refl _) _⟩

theorem digits_any : ∀ (m : Nat) (n : Int) (w : World), n.natAbs ≤ m → -9223372036854775808 ≤ n → n ≤ 9223372036854775807 →
    Calls Tryd.prog 26 #[.int .i64 n] w fun e w' => e = .returned (.string (itoaB n)) ∧ Below w.heap.size w w'
  | m, n, w, hm, hlo, hhi => by
    by_cases h0 : 0 ≤ n ∧ n < 10
    · exact digits_small n w h0.1 h0.2
    · obtain ⟨m, rfl⟩ : ∃ k, m = k + 1 := ⟨m - 1, by omega⟩
      have ih := digits_any m
      have IH : Hid (∀ (n : Int) (w : World), n.natAbs ≤ m → -9223372036854775808 ≤ n → n ≤ 9223372036854775807 → Calls Tryd.prog 26 #[.int .i64 n] w fun e w' => e = .returned (.string (itoaB n)) ∧ Below w.heap.size w w') := ih
      clear ih
      by_cases hn : n < 0
      · by_cases h9 : -10 < n
        · have hd := dig_minus hn
          have hz := itoaB_size (-n) (by omega) (by omega)
          clear h0
          go_enter Tryd.func26, Tryd.ntmps26
          go_wp2_with fail
          refine (digits_small (-n) w (by omega) (by omega)).mono ?_
          rintro e w1 ⟨rfl, hb⟩
          go_wp2
          go_ret
          exact ⟨by rw [← hd]; rfl, hb⟩
        · have hd := dig_neg (n := n) (by omega)
          have t1 : (n.tdiv 10).natAbs ≤ m ∧ -9223372036854775808 ≤ n.tdiv 10 ∧ n.tdiv 10 ≤ 0 := by
            rw [show n = -(-n) by omega, Int.neg_tdiv, Int.tdiv_eq_ediv_of_nonneg (by omega)]; omega
          have t2 : 0 ≤ -(n.tmod 10) ∧ -(n.tmod 10) < 10 := by
            rw [show n = -(-n) by omega, Int.neg_tmod, Int.tmod_eq_emod_of_nonneg (by omega)]; omega
          have z1 := itoaB_size (n.tdiv 10) (by omega) (by omega)
          have z2 := itoaB_size (-(n.tmod 10)) (by omega) (by omega)
          have T1 : Hid ((n.tdiv 10).natAbs ≤ m ∧ -9223372036854775808 ≤ n.tdiv 10 ∧ n.tdiv 10 ≤ 0) := t1
          clear h0 t1
          go_enter Tryd.func26, Tryd.ntmps26
          go_wp2_with fail
          refine (IH.out _ w T1.out.1 T1.out.2.1 (by have := T1.out; omega)).mono ?_
          rintro e w1 ⟨rfl, hb⟩
          go_wp2_with fail
          refine (digits_small _ w1 t2.1 t2.2).mono ?_
          rintro e w2 ⟨rfl, hb2⟩
          go_wp2
          go_ret
          exact ⟨by rw [← hd]; rfl, hb.trans (hb2.mono hb.size)⟩
      · have hd := dig_pos (n := n) (by omega)
        have z1 := itoaB_size (n / 10) (by omega) (by omega)
        have z2 := itoaB_size (n % 10) (by omega) (by omega)
        have h10 : ¬ n < 10 := by omega
        clear h0
        go_enter Tryd.func26, Tryd.ntmps26
        go_wp2_with fail
        refine (IH.out (n / 10) w (by omega) (by omega) (by omega)).mono ?_
        rintro e w1 ⟨rfl, hb⟩
        go_wp2_with fail
        refine (digits_small (n % 10) w1 (by omega) (by omega)).mono ?_
        rintro e w2 ⟨rfl, hb2⟩
        go_wp2
        go_ret
        exact ⟨by rw [← hd]; rfl, hb.trans (hb2.mono hb.size)⟩

end Go.Proofs.YtocfhejjmefmcaaDoor.Fa
