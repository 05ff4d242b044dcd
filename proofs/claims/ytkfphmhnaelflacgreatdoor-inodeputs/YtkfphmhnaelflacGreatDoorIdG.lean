/-
  What a body is read as: the inode, the error. No condition.
-/
import Derived.Test.YtkfphmhnaelflacGreatDoorIdRightX
import Derived.Test.YtkfphmhnaelflacGreatDoorSlSeals
import Derived.Test.YtkfphmhnaelflacGreatDoorLeCode
namespace Go.Proofs.YtkfphmhnaelflacGreatDoor.Id
open Go.ChangeShapes Go.WideShapes Go.ChangeAt Go.RowKit Go.Proofs.Fa
open Go.Proofs.YtkfphmhnaelflacGreatDoor.Le (getF takeF inNumF noughtsF failF)
open Go.Proofs.YtkfphmhnaelflacGreatDoor.Mk (ext_bytes extract_data)

def verG (b : ByteArray) : Int := getF (b.extract 0 6)
def cntG (b : ByteArray) : Nat := (b.data.toList.getD 6 0).toNat
def extG (b : ByteArray) (i : Nat) : Ext := ⟨getF (b.extract (7 + 4 * i) (9 + 4 * i)), getF (b.extract (9 + 4 * i) (11 + 4 * i))⟩
def lstG (b : ByteArray) (n : Nat) : List Ext := (List.range n).map (extG b)
theorem lstG_length (b : ByteArray) (n : Nat) : (lstG b n).length = n := by simp [lstG]
theorem lstG_succ (b : ByteArray) (n : Nat) : lstG b (n + 1) = lstG b n ++ [extG b n] := by unfold lstG; rw [List.range_succ]; simp
/-- All bytes from one on are 0. -/
def restG (b : ByteArray) (m : Nat) : Bool := (b.data.toList.drop m).all (fun c => c == 0)
/-- Which error reading a body has. -/
def getE (b : ByteArray) (s : Int) : Int := if 36 < cntG b then 4 else if restG b (7 + 4 * cntG b) = true then (if rightB (verG b) (lstG b (cntG b)) s = true then 0 else 17) else 4

theorem len_of {a : ByteArray} {n : Nat} (h : a.size = n) : a.data.toList.length = n := by simpa using h
theorem ext_ext (b : ByteArray) (i j k l : Nat) (hl : i + l ≤ j) : (b.extract i j).extract k l = b.extract (i + k) (i + l) := by
  apply ext_bytes
  rw [extract_data, extract_data, extract_data, List.drop_take, List.drop_drop, List.take_take]
  congr 1
  omega
theorem getF_lt (b : ByteArray) (n : Nat) (h : b.size = n) (hn : n ≤ 7) : 0 ≤ getF b ∧ getF b < 2 ^ (8 * n) := by
  rw [Le.getF_yes (by omega)]
  have := Le.leVal_lt b.data.toList
  rw [len_of h] at this
  exact ⟨by omega, by exact_mod_cast this⟩
theorem ext_size (b : ByteArray) (i j : Nat) (h : j ≤ b.size) : (b.extract i j).size = j - i := by simp; omega
theorem num_of (b : ByteArray) (i n : Nat) (h1 : 1 ≤ n) (h7 : n ≤ 7) (hb : b.size = 504) (hi : i + n ≤ 504) : inNumF (b.extract i 504) 0 n = (getF (b.extract i (i + n)), b.extract (i + n) 504, 0) := by
  have hz : (b.extract i 504).size = 504 - i := ext_size b i 504 (by omega)
  unfold inNumF takeF
  rw [if_pos (by omega), if_neg (by decide), if_neg (by omega), if_neg (by rw [hz]; omega), hz, Int.toNat_natCast]
  rw [ext_ext b i 504 0 n (by omega), ext_ext b i 504 n (504 - i) (by omega)]
  simp only [Nat.add_zero]
  rw [show i + (504 - i) = 504 by omega]
theorem cntG_get (b : ByteArray) (h : b.size = 504) : getF (b.extract 6 7) = cntG b := by
  rw [Le.getF_yes (by rw [ext_size b 6 7 (by omega)]; omega)]
  have hd : (b.extract 6 7).data.toList = [b.data.toList.getD 6 0] := by
    rw [extract_data]
    have hl := len_of h
    rw [List.drop_eq_getElem_cons (by omega), List.getD_eq_getElem?_getD, List.getElem?_eq_getElem (by omega)]
    rfl
  rw [hd]
  unfold cntG
  simp [Le.leVal]
theorem cntG_lt (b : ByteArray) : cntG b < 256 := (b.data.toList.getD 6 0).toNat_lt
theorem cntG_at (b : ByteArray) (h : 6 < b.size) : b[6].toNat = cntG b := by
  unfold cntG
  rw [List.getD_eq_getElem?_getD, List.getElem?_eq_getElem (by simpa using h)]; rfl
theorem nought_of (b : ByteArray) (m : Nat) (h : b.size = 504) (hm : m ≤ 504) : noughtsF (b.extract m 504) 0 ((504 - m : Nat) : Int) = (ByteArray.empty, if restG b m then 0 else 4) := by
  have hz : (b.extract m 504).size = 504 - m := ext_size b m 504 (by omega)
  have e1 : (b.extract m 504).extract 0 (504 - m) = b.extract m 504 := by
    rw [ext_ext b m 504 0 (504 - m) (by omega), Nat.add_zero, show m + (504 - m) = 504 by omega]
  have e2 : (b.extract m 504).extract (504 - m) (504 - m) = ByteArray.empty := by
    apply ext_bytes
    rw [extract_data, Nat.sub_self, List.take_zero]
    rfl
  have hd : (b.extract m 504).data.toList = b.data.toList.drop m := by
    rw [extract_data]
    exact List.take_of_length_le (by rw [List.length_drop, len_of h]; omega)
  have hr : restG b m = (b.extract m 504).data.toList.all (fun c => c == 0) := by rw [hd]; rfl
  rw [hr]
  clear hr hd
  generalize b.extract m 504 = u at *
  generalize 504 - m = d at *
  have ht : takeF u 0 (d : Int) = (u, ByteArray.empty, 0) := by
    unfold takeF
    rw [if_neg (by decide), if_neg (by omega), if_neg (by rw [hz]; omega), hz, Int.toNat_natCast, e1, e2]
  unfold noughtsF
  rw [ht]
  by_cases hq : (u.data.toList.all fun c => c == 0) = true
  · rw [if_pos hq, if_pos hq]
  · rw [if_neg hq, if_neg hq]; rfl
theorem rest_yes (b : ByteArray) (m : Nat) (h : ∀ k (hk : k < b.size), m ≤ k → b[k] = 0) : restG b m = true := by
  unfold restG
  rw [List.all_eq_true]
  intro c hc
  obtain ⟨i, hi, rfl⟩ := List.getElem_of_mem hc
  rw [List.length_drop] at hi
  have := h (m + i) (by simp at hi; omega) (by omega)
  rw [List.getElem_drop, beq_iff_eq]
  exact this
theorem rest_no (b : ByteArray) (m k : Nat) (hk : k < b.size) (h4 : m ≤ k) (h : b[k] ≠ 0) : restG b m = false := by
  unfold restG
  rw [List.all_eq_false]
  refine ⟨b[k], ?_, by simpa using h⟩
  rw [List.mem_iff_getElem]
  refine ⟨k - m, by rw [List.length_drop, len_of rfl]; omega, ?_⟩
  rw [List.getElem_drop]
  simp only [show m + (k - m) = k by omega]
  rfl
theorem extG_pos (b : ByteArray) (i : Nat) (h : b.size = 504) (hi : 11 + 4 * i ≤ 504) : 0 ≤ (extG b i).pos ∧ (extG b i).pos < 65536 ∧ 0 ≤ (extG b i).len ∧ (extG b i).len < 65536 := by
  have h1 := getF_lt (b.extract (7 + 4 * i) (9 + 4 * i)) 2 (by rw [ext_size b _ _ (by omega)]; omega) (by decide)
  have h2 := getF_lt (b.extract (9 + 4 * i) (11 + 4 * i)) 2 (by rw [ext_size b _ _ (by omega)]; omega) (by decide)
  exact ⟨h1.1, h1.2, h2.1, h2.2⟩

end Go.Proofs.YtkfphmhnaelflacGreatDoor.Id
