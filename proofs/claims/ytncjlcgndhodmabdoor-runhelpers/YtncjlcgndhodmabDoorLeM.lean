/-
  Plain mathematics for layer 1 (le): the bytes of a number, and the number of bytes. No condition. Nothing of the program.
-/
import Derived.Laws.BitsAllLaws
import Derived.Laws.BitsLemmas
import Derived.Laws.BytesArg
import Derived.RowKit
import Derived.Laws.Strings
namespace Go.Proofs.YtncjlcgndhodmabDoor.Le
open Go.RowKit

/-- Byte i of a number, as a number. -/
def byteAt (n : Int) (i : Nat) : Int := n / 2 ^ (8 * i) % 256

/-- The bytes of a number, the lowest first. -/
def bytesOf (n : Int) (k : Nat) : List Int := (List.range k).map (byteAt n)

/-- The number of bytes, the lowest first. -/
def leVal : List UInt8 → Nat
  | [] => 0
  | c :: r => c.toNat + 256 * leVal r

theorem pow8_succ (k : Nat) : 2 ^ (8 * (k + 1)) = 256 * 2 ^ (8 * k) := by
  rw [show 8 * (k + 1) = 8 * k + 8 by omega, Nat.pow_add]; omega

theorem leVal_snoc (l : List UInt8) (c : UInt8) : leVal (l ++ [c]) = leVal l + c.toNat * 2 ^ (8 * l.length) := by
  induction l with
  | nil => simp [leVal]
  | cons a r ih =>
    simp only [List.cons_append, leVal, ih, List.length_cons]
    rw [pow8_succ, Nat.mul_add, Nat.mul_left_comm]; omega

theorem leVal_lt (l : List UInt8) : leVal l < 2 ^ (8 * l.length) := by
  induction l with
  | nil => simp [leVal]
  | cons a r ih =>
    simp only [leVal, List.length_cons]
    have := pow8_succ r.length
    have := a.toNat_lt
    omega

theorem pow8_le (k m : Nat) (h : k ≤ m) : 2 ^ (8 * k) ≤ 2 ^ (8 * m) := Nat.pow_le_pow_right (by decide) (by omega)

theorem leVal_lt7 (l : List UInt8) (h : l.length ≤ 7) : leVal l < 72057594037927936 :=
  Nat.lt_of_lt_of_le (leVal_lt l) (pow8_le _ 7 h)

theorem take_snoc (s : ByteArray) (k : Nat) (h : k < s.size) : s.data.toList.take (k + 1) = s.data.toList.take k ++ [s[k]] := by
  rw [List.take_succ_eq_append_getElem (by simpa using h)]; rfl

theorem drop_cons (s : ByteArray) (k : Nat) (h : k < s.size) : s.data.toList.drop k = s[k] :: s.data.toList.drop (k + 1) := by
  rw [List.drop_eq_getElem_cons (by simpa using h)]; rfl

theorem leVal_take (s : ByteArray) (k : Nat) (h : k < s.size) : leVal (s.data.toList.take (k + 1)) = leVal (s.data.toList.take k) + s[k].toNat * 2 ^ (8 * k) := by
  rw [take_snoc s k h, leVal_snoc, List.length_take_of_le (by simp; omega)]

theorem leVal_drop (s : ByteArray) (k : Nat) (h : k < s.size) : leVal (s.data.toList.drop k) = s[k].toNat + 256 * leVal (s.data.toList.drop (k + 1)) := by
  rw [drop_cons s k h]; rfl

theorem i64_or_nat (a b : Nat) (ha : a < 9223372036854775808) (hb : b < 9223372036854775808) : bits .or .i64 (a : Int) (b : Int) = ((a ||| b : Nat) : Int) := by
  have hx : a ||| b < 2 ^ 63 := Nat.or_lt_two_pow (by omega) (by omega)
  have h1 := ofInt_u64 a (by omega)
  have h2 := ofInt_u64 b (by omega)
  show IntKind.i64.wrap ((BitVec.ofInt 64 (a : Int) ||| BitVec.ofInt 64 (b : Int)).toNat : Int) = _
  rw [BitVec.toNat_or, h1, h2, IntKind.wrap_i64]
  omega

/-- One step of Get: the next byte above what is there. -/
theorem or_step (v c k : Nat) (hk : k ≤ 6) (hv : v < 2 ^ (8 * k)) (hc : c < 256) :
    bits .or .i64 (v : Int) (wrap64 (wrap64 (c : Int) * 2 ^ (8 * k))) = ((v + c * 2 ^ (8 * k) : Nat) : Int) := by
  have hp : 2 ^ (8 * k) ≤ 281474976710656 := pow8_le k 6 hk
  have hcp : c * 2 ^ (8 * k) ≤ 255 * 281474976710656 := Nat.mul_le_mul (by omega) hp
  have h1 : wrap64 (c : Int) = c := by unfold wrap64; omega
  have h2 : ((c : Int) * 2 ^ (8 * k)) = ((c * 2 ^ (8 * k) : Nat) : Int) := by simp
  have h3 : wrap64 ((c * 2 ^ (8 * k) : Nat) : Int) = ((c * 2 ^ (8 * k) : Nat) : Int) := by unfold wrap64; omega
  rw [h1, h2, h3, i64_or_nat _ _ (by omega) (by omega), Nat.or_comm, ← Nat.shiftLeft_eq, ← Nat.shiftLeft_add_eq_or_of_lt hv, Nat.add_comm]

/-- One step of the document's Get. -/
theorem add_step (v c : Nat) (hv : v < 281474976710656) (hc : c < 256) :
    wrap64 (wrap64 (256 * (v : Int)) + wrap64 (c : Int)) = ((c + 256 * v : Nat) : Int) := by
  unfold wrap64; omega

theorem i64_and_mask (n : Int) (k : Nat) (hk : k ≤ 56) : bits .and .i64 n (2 ^ k - 1) = n % 2 ^ k := by
  have hp : 2 ^ k ≤ 2 ^ 56 := Nat.pow_le_pow_right (by decide) hk
  have hp0 : 0 < 2 ^ k := Nat.two_pow_pos k
  have e : ((2 : Int) ^ k - 1) = ((2 ^ k - 1 : Nat) : Int) := by
    rw [Int.natCast_sub (by omega)]; simp
  have h1 := ofInt_u64 (2 ^ k - 1) (by omega)
  have key : (BitVec.ofInt 64 n &&& BitVec.ofInt 64 ((2 ^ k - 1 : Nat) : Int)).toNat = (n % ((2 ^ 64 : Nat) : Int)).toNat % 2 ^ k := by
    rw [BitVec.toNat_and, BitVec.toNat_ofInt, h1, Nat.and_two_pow_sub_one_eq_mod]
  rw [e]
  show IntKind.i64.wrap ((BitVec.ofInt 64 n &&& BitVec.ofInt 64 ((2 ^ k - 1 : Nat) : Int)).toNat : Nat) = n % 2 ^ k
  rw [key, IntKind.wrap_i64]
  have hm : (n % ((2 ^ 64 : Nat) : Int)).toNat % 2 ^ k < 2 ^ k := Nat.mod_lt _ hp0
  have h3 : (((n % ((2 ^ 64 : Nat) : Int)).toNat % 2 ^ k : Nat) : Int) = n % 2 ^ k := by
    rw [Int.natCast_emod, Int.toNat_of_nonneg (Int.emod_nonneg _ (by decide))]
    have : ((2 ^ 64 : Nat) : Int) = ((2 ^ k : Nat) : Int) * ((2 ^ (64 - k) : Nat) : Int) := by
      rw [← Int.natCast_mul, ← Nat.pow_add, show k + (64 - k) = 64 by omega]
    rw [Int.emod_emod_of_dvd n (by rw [this]; exact Int.dvd_mul_right _ _)]; simp
  omega

theorem mod_split (n P : Int) (hP : 0 < P) : n % P + n / P % 256 * P = n % (P * 256) := by
  have h1 := Int.emod_add_mul_ediv n P
  have h2 := Int.emod_add_mul_ediv (n / P) 256
  have a0 := Int.emod_nonneg n (Int.ne_of_gt hP)
  have a1 := Int.emod_lt_of_pos n hP
  have b0 := Int.emod_nonneg (n / P) (show (256 : Int) ≠ 0 by decide)
  have b1 := Int.emod_lt_of_pos (n / P) (show (0 : Int) < 256 by decide)
  generalize n % P = r at *
  generalize n / P = q at *
  generalize q % 256 = d at *
  generalize q / 256 = e at *
  have hn : n = (r + d * P) + (P * 256) * e := by
    rw [← h1, ← h2, Int.mul_add, Int.mul_comm P d, Int.mul_assoc]; omega
  have c1 : d * P ≤ 255 * P := Int.mul_le_mul_of_nonneg_right (by omega) (by omega)
  have c0 : 0 ≤ d * P := Int.mul_nonneg b0 (by omega)
  rw [hn, Int.add_mul_emod_self_left, Int.emod_eq_of_lt (by omega) (by omega)]

theorem leVal_bytesOf (n : Int) (k : Nat) : (leVal ((bytesOf n k).map fun x => UInt8.ofNat x.toNat) : Int) = n % 2 ^ (8 * k) := by
  induction k with
  | zero => simp [bytesOf, leVal, Int.emod_one]
  | succ k ih =>
    have e : bytesOf n (k + 1) = bytesOf n k ++ [byteAt n k] := by simp [bytesOf, List.range_succ]
    rw [e, List.map_append, List.map_cons, List.map_nil, leVal_snoc, Int.natCast_add, ih]
    simp only [List.length_map, bytesOf, List.length_range]
    have hb0 : 0 ≤ byteAt n k := Int.emod_nonneg _ (by decide)
    have hb1 : byteAt n k < 256 := Int.emod_lt_of_pos _ (by decide)
    have hu : ((UInt8.ofNat (byteAt n k).toNat).toNat : Int) = byteAt n k := by simp; omega
    rw [Int.natCast_mul, hu]
    have hp : ((2 ^ (8 * k) : Nat) : Int) = 2 ^ (8 * k) := by simp
    have hq : (2 : Int) ^ (8 * (k + 1)) = 2 ^ (8 * k) * 256 := by
      rw [show 8 * (k + 1) = 8 * k + 8 by omega, Int.pow_add]; rfl
    rw [hp, hq]
    generalize hP : (2 : Int) ^ (8 * k) = P
    have hPpos : 0 < P := by rw [← hP]; exact Int.pow_pos (by decide)
    unfold byteAt; rw [hP]
    exact mod_split n P hPpos

/-- What Put answers. -/
def putF (n s : Int) : ByteArray := if 1 ≤ s ∧ s ≤ 7 ∧ 0 ≤ n ∧ n / 2 ^ (8 * s.toNat) = 0 then strOfNums (bytesOf n s.toNat) else ByteArray.empty
/-- What Get answers. -/
def getF (b : ByteArray) : Int := if b.size ≤ 7 then leVal b.data.toList else 0

theorem putF_yes {n s : Int} (h1 : 1 ≤ s) (h7 : s ≤ 7) (h0 : 0 ≤ n) (h : n / 2 ^ (8 * s.toNat) = 0) : putF n s = strOfNums (bytesOf n s.toNat) := if_pos ⟨h1, h7, h0, h⟩
theorem putF_no {n s : Int} (h : ¬ (1 ≤ s ∧ s ≤ 7 ∧ 0 ≤ n ∧ n / 2 ^ (8 * s.toNat) = 0)) : putF n s = ByteArray.empty := if_neg h
theorem getF_yes {b : ByteArray} (h : b.size ≤ 7) : getF b = leVal b.data.toList := if_pos h
theorem getF_no {b : ByteArray} (h : 7 < b.size) : getF b = 0 := if_neg (by omega)

theorem strOfNums_ne (n : Int) (k : Nat) : (strOfNums (bytesOf n k)).size = k := by simp [strOfNums_size, bytesOf]

theorem size_empty : ByteArray.empty.size = 0 := rfl

/-- What has been put is got again. -/
theorem getF_putF {n s : Int} (h : putF n s ≠ ByteArray.empty) : getF (putF n s) = n := by
  by_cases hv : 1 ≤ s ∧ s ≤ 7 ∧ 0 ≤ n ∧ n / 2 ^ (8 * s.toNat) = 0
  · obtain ⟨h1, h7, h0, hd⟩ := hv
    rw [putF_yes h1 h7 h0 hd, getF_yes (by rw [strOfNums_size]; simp [bytesOf]; omega), strOfNums_data, leVal_bytesOf]
    have hp : (0 : Int) < 2 ^ (8 * s.toNat) := Int.pow_pos (by decide)
    have := Int.emod_add_mul_ediv n (2 ^ (8 * s.toNat))
    rw [hd] at this
    omega
  · exact absurd (putF_no hv) h

theorem bytes_step (n : Int) (k : Nat) : strOfNums (bytesOf n k) ++ strOfNums [n / 2 ^ (8 * k) % 256] = strOfNums (bytesOf n (k + 1)) := by
  have e : bytesOf n (k + 1) = bytesOf n k ++ [byteAt n k] := by simp [bytesOf, List.range_succ]
  rw [e]
  apply ByteArray.ext
  simp [strOfNums, byteAt]

theorem div_step (n : Int) (k : Nat) : n / 2 ^ (8 * k) / 256 = n / 2 ^ (8 * (k + 1)) := by
  have hq : (2 : Int) ^ (8 * (k + 1)) = 2 ^ (8 * k) * 256 := by
    rw [show 8 * (k + 1) = 8 * k + 8 by omega, Int.pow_add]; rfl
  rw [hq, Int.ediv_ediv_of_nonneg]
  exact Int.pow_nonneg (by decide)

theorem isEmpty_true {b : ByteArray} (h : b = ByteArray.empty) : b.toList.isEmpty = true := by
  rw [h, ByteArray.toList_eq]; rfl
theorem isEmpty_false {b : ByteArray} (h : b ≠ ByteArray.empty) : b.toList.isEmpty = false := by
  rw [ByteArray.toList_eq]
  cases hb : b.data.toList with
  | nil =>
    refine absurd (ByteArray.ext ?_) h
    exact Array.toList_inj.1 (by rw [hb]; rfl)
  | cons a r => rfl

/-- Go's '==' of two strings. -/
theorem streq_iff (a b : ByteArray) : (a.toList == b.toList) = decide (a = b) := by
  rw [ByteArray.toList_eq, ByteArray.toList_eq, Bool.eq_iff_iff]
  simp only [beq_iff_eq, decide_eq_true_eq]
  exact ⟨fun h => ByteArray.ext (Array.toList_inj.1 h), fun h => by rw [h]⟩
theorem streq_yes {a b : ByteArray} (h : a = b) : (a.toList == b.toList) = true := by rw [streq_iff]; simpa using h
theorem streq_no {a b : ByteArray} (h : a ≠ b) : (a.toList == b.toList) = false := by rw [streq_iff]; simpa using h

theorem tmod_bounds (x m : Int) (hm : 0 < m) : -m < x.tmod m ∧ x.tmod m < m := by
  constructor
  · have := Int.lt_tmod_of_pos x hm; omega
  · exact Int.tmod_lt_of_pos x hm
theorem tmod_fix (x m : Int) (hm : 0 < m) (hb : m ≤ 4294967296) : (wrap64 (x.tmod m + m)).tmod m = x % m := by
  obtain ⟨h1, h2⟩ := tmod_bounds x m hm
  have e1 : wrap64 (x.tmod m + m) = x.tmod m + m := by unfold wrap64; omega
  rw [e1, Int.tmod_eq_emod_of_nonneg (by omega)]
  have e2 := Int.tmod_add_mul_tdiv x m
  have e3 : x.tmod m + m = x + m * (1 - x.tdiv m) := by rw [Int.mul_sub]; omega
  rw [e3, Int.add_mul_emod_self_left]

theorem putF_in {x k : Int} (k1 : 1 ≤ k) (k7 : k ≤ 7) (h0 : 0 ≤ x) (h : x < 2 ^ (8 * k).toNat) : putF x k = strOfNums (bytesOf x k.toNat) ∧ (putF x k).size = k.toNat ∧ putF x k ≠ ByteArray.empty := by
  have e : (8 * k).toNat = 8 * k.toNat := by omega
  rw [e] at h
  have := putF_yes k1 k7 h0 (Int.ediv_eq_zero_of_lt h0 h)
  have hz : (putF x k).size = k.toNat := by rw [this, strOfNums_ne]
  exact ⟨this, hz, fun he => by rw [he, size_empty] at hz; omega⟩

theorem mask_fix (k : Int) (k1 : 1 ≤ k) (k7 : k ≤ 7) (a : Int) : bits .and .i64 a (wrap64 (wrap64 (2 ^ (8 * k).toNat) - 1)) = a % 2 ^ (8 * k).toNat := by
  have hp : 2 ^ (8 * k).toNat ≤ 2 ^ 56 := Nat.pow_le_pow_right (by decide) (by omega)
  have hp0 : 0 < 2 ^ (8 * k).toNat := Nat.two_pow_pos _
  have e : ((2 : Int) ^ (8 * k).toNat) = ((2 ^ (8 * k).toNat : Nat) : Int) := by simp
  have e1 : wrap64 (wrap64 (2 ^ (8 * k).toNat) - 1) = 2 ^ (8 * k).toNat - 1 := by
    rw [e]; unfold wrap64; omega
  rw [e1]
  exact i64_and_mask a _ (by omega)

end Go.Proofs.YtncjlcgndhodmabDoor.Le
