/-
  Plain mathematics for the statement on spoilt sectors: bytes of which some in a row are changed. No condition. Nothing of the program.
-/
import Derived.Test.YtiaigboichmepabDoorSlS
namespace Go.Proofs.YtiaigboichmepabDoor.Mk
open Go.RowKit
open Go.Proofs.YtiaigboichmepabDoor.Le (byteAt)

/-- The i-th byte that is put to it. -/
def xb (h : Int) (i : Nat) : UInt8 := UInt8.ofNat (byteAt h i).toNat
theorem xb_nat (h : Int) (i : Nat) : ((xb h i).toNat : Int) = byteAt h i := by
  have h0 : 0 ≤ byteAt h i := Int.emod_nonneg _ (by decide)
  have h1 : byteAt h i < 256 := Int.emod_lt_of_pos _ (by decide)
  unfold xb; simp; omega

/-- Byte j behind k changes from a place on. -/
def tb (s : ByteArray) (a : Nat) (h : Int) (k j : Nat) : UInt8 := if a ≤ j ∧ j < a + k then s.data.toList.getD j 0 ^^^ xb h (j - a) else s.data.toList.getD j 0
def tS (s : ByteArray) (a : Nat) (h : Int) (k : Nat) : ByteArray := ⟨((List.range 512).map (tb s a h k)).toArray⟩
theorem tS_data (s : ByteArray) (a : Nat) (h : Int) (k : Nat) : (tS s a h k).data.toList = (List.range 512).map (tb s a h k) := List.toList_toArray
theorem tS_size (s : ByteArray) (a : Nat) (h : Int) (k : Nat) : (tS s a h k).size = 512 := by
  show (List.toArray _).size = 512
  rw [List.size_toArray, List.length_map, List.length_range]

/-- Was something changed? -/
def chB (h : Int) : Nat → Bool
  | 0 => false
  | k + 1 => chB h k || (xb h k != 0)

theorem chB_false {h : Int} : ∀ {k : Nat}, chB h k = false → ∀ i, i < k → xb h i = 0
  | 0, _, i, hi => by omega
  | k + 1, e, i, hi => by
    have e' : (chB h k || (xb h k != 0)) = false := e
    rw [Bool.or_eq_false_iff] at e'
    by_cases hk : i = k
    · subst hk; simpa using e'.2
    · exact chB_false e'.1 i (by omega)

theorem chB_true {h : Int} : ∀ {k : Nat}, chB h k = true → ∃ i, i < k ∧ xb h i ≠ 0
  | 0, e => by cases e
  | k + 1, e => by
    have e' : (chB h k || (xb h k != 0)) = true := e
    rcases Bool.or_eq_true_iff.1 e' with e1 | e1
    · obtain ⟨i, h1, h2⟩ := chB_true e1; exact ⟨i, by omega, h2⟩
    · exact ⟨k, by omega, by simpa using e1⟩

theorem tb_zero (s : ByteArray) (a : Nat) (h : Int) (j : Nat) : tb s a h 0 j = s.data.toList.getD j 0 := by
  unfold tb; rw [if_neg (by omega)]

theorem tb_same {s : ByteArray} {a : Nat} {h : Int} {k j : Nat} (hj : j = a + k) : tb s a h (k + 1) j = tb s a h k j ^^^ xb h k := by
  subst hj
  unfold tb
  rw [if_pos (by omega), if_neg (by omega)]
  congr 2; omega

theorem tb_other {s : ByteArray} {a : Nat} {h : Int} {k j : Nat} (hj : j ≠ a + k) : tb s a h (k + 1) j = tb s a h k j := by
  unfold tb
  by_cases hc : a ≤ j ∧ j < a + k
  · rw [if_pos (by omega), if_pos hc]
  · rw [if_neg (by omega), if_neg hc]

/-- Unchanged: the same bytes. -/
theorem tS_same {s : ByteArray} (hs : s.size = 512) {a : Nat} {h : Int} {k : Nat} (hc : chB h k = false) : tS s a h k = s := by
  apply ext_bytes
  have hl : s.data.toList.length = 512 := by simpa using hs
  rw [tS_data]
  apply List.ext_getElem (by rw [List.length_map, List.length_range, hl])
  intro j h1 h2
  rw [List.getElem_map, List.getElem_range]
  have e : s.data.toList.getD j 0 = s.data.toList[j] := by rw [List.getD_eq_getElem?_getD, List.getElem?_eq_getElem h2]; rfl
  unfold tb
  split
  · rw [chB_false hc _ (by omega), e]; simp
  · exact e

theorem xor_zip {s : ByteArray} (hs : s.size = 512) {a : Nat} {h : Int} {k : Nat} (ha : a + k ≤ 512) :
    List.zipWith (· ^^^ ·) s.data.toList (tS s a h k).data.toList = List.replicate a 0 ++ (List.range k).map (xb h) ++ List.replicate (512 - a - k) 0 := by
  have hl : s.data.toList.length = 512 := by simpa using hs
  rw [tS_data]
  apply List.ext_getElem
  · rw [List.length_zipWith, hl, List.length_map, List.length_range, List.length_append, List.length_append, List.length_replicate, List.length_map, List.length_range, List.length_replicate]; omega
  intro j h1 h2
  rw [List.length_zipWith, hl, List.length_map, List.length_range] at h1
  rw [List.getElem_zipWith, List.getElem_map, List.getElem_range]
  have e : s.data.toList.getD j 0 = s.data.toList[j] := by rw [List.getD_eq_getElem?_getD, List.getElem?_eq_getElem (by omega)]; rfl
  unfold tb
  rw [e]
  by_cases hj : j < a
  · rw [if_neg (by omega), List.getElem_append_left (by rw [List.length_append, List.length_replicate]; omega), List.getElem_append_left (by rw [List.length_replicate]; omega), List.getElem_replicate]; simp
  · by_cases hk : j < a + k
    · rw [if_pos (by omega), List.getElem_append_left (by rw [List.length_append, List.length_replicate, List.length_map, List.length_range]; omega), List.getElem_append_right (by rw [List.length_replicate]; omega), List.getElem_map, List.getElem_range]
      rw [← UInt8.xor_assoc, UInt8.xor_self, UInt8.zero_xor]
      congr 1; rw [List.length_replicate]
    · rw [if_neg (by omega), List.getElem_append_right (by rw [List.length_append, List.length_replicate, List.length_map, List.length_range]; omega), List.getElem_replicate]; simp

/-- A sector with a right sum of which one to four bytes in a row were changed has no right sum. -/
theorem tS_spoilt {s : ByteArray} (hs : s.size = 512) (ho : sumOk s) {a : Nat} {h : Int} {k : Nat} (ha : a + k ≤ 512) (hk : k ≤ 4) (hc : chB h k = true) : ¬ sumOk (tS s a h k) := by
  intro ht
  obtain ⟨i, hi, hx⟩ := chB_true hc
  exact hx (spoilt hs (tS_size s a h k) ho ht a (512 - a - k) ((List.range k).map (xb h)) (by rw [List.length_map, List.length_range]; exact hk) (xor_zip hs ha) _ (List.mem_map.2 ⟨i, List.mem_range.2 hi, rfl⟩))

theorem openF_spoilt {k : Int} {s : ByteArray} (h : ¬ sumOk s) : (openF k s).2 ≠ 0 := by
  unfold openF
  rw [if_neg h]
  split <;> decide

end Go.Proofs.YtiaigboichmepabDoor.Mk
