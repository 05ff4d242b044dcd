/-
  A layout's bytes, and what a body is read as. No condition.
-/
import Derived.Test.YtadimbpgdihjlabDoorSuM
import Derived.Test.YtadimbpgdihjlabDoorSlSeals
namespace Go.Proofs.YtadimbpgdihjlabDoor.Su
open Go.ChangeShapes Go.WideShapes Go.ChangeAt Go.RowKit
open Go.Proofs.YtadimbpgdihjlabDoor.Le (putF getF getF_putF putF_in)
open Go.Proofs.YtadimbpgdihjlabDoor.Mk (padS ext_bytes extract_data)

/-- A layout's bytes. -/
def bodyS (s j : Int) : ByteArray := putF s 2 ++ putF j 2
/-- What a body is read as: the layout, the error. -/
def bodyG (b : ByteArray) : Int × Int × Int :=
  if (b.data.toList.drop 4).all (fun c => c == 0) then (if RightP (getF (b.extract 0 2)) (getF (b.extract 2 4)) then (getF (b.extract 0 2), getF (b.extract 2 4), 0) else (0, 0, 17)) else (0, 0, 4)

theorem len_of {a : ByteArray} {n : Nat} (h : a.size = n) : a.data.toList.length = n := by simpa using h
theorem pad_bytes (a c : ByteArray) (ha : a.size = 2) (hc : c.size = 2) : (padS (a ++ c)).data.toList = a.data.toList ++ (c.data.toList ++ List.replicate 500 0) := by
  have hz : (a ++ c).size = 4 := by rw [ByteArray.size_append, ha, hc]
  show (List.toArray _).toList = _
  rw [List.toList_toArray, hz, ByteArray.data_append, Array.toList_append, List.append_assoc]
theorem pad_first (a c : ByteArray) (ha : a.size = 2) (hc : c.size = 2) : (padS (a ++ c)).extract 0 2 = a := by
  apply ext_bytes
  rw [extract_data, pad_bytes a c ha hc, List.drop_zero]
  exact List.take_left' (len_of ha)
theorem pad_second (a c : ByteArray) (ha : a.size = 2) (hc : c.size = 2) : (padS (a ++ c)).extract 2 4 = c := by
  apply ext_bytes
  rw [extract_data, pad_bytes a c ha hc, List.drop_left' (len_of ha)]
  exact List.take_left' (len_of hc)
theorem pad_rest (a c : ByteArray) (ha : a.size = 2) (hc : c.size = 2) : ((padS (a ++ c)).data.toList.drop 4).all (fun c => c == 0) = true := by
  rw [pad_bytes a c ha hc, ← List.append_assoc, List.drop_left' (by rw [List.length_append, len_of ha, len_of hc])]
  rw [List.all_eq_true]
  intro x hx
  rw [List.mem_replicate] at hx
  simp [hx.2]
theorem put_two {n : Int} (h0 : 0 ≤ n) (h : n ≤ 2048) : (putF n 2).size = 2 ∧ getF (putF n 2) = n := by
  obtain ⟨_, h2, h3⟩ := putF_in (x := n) (k := 2) (by decide) (by decide) h0 (by show n < 65536; omega)
  exact ⟨h2, getF_putF h3⟩
theorem bodyS_size {s j : Int} (h : RightP s j) : (bodyS s j).size = 4 := by
  unfold RightP at h
  have h1 := (put_two (n := s) (by omega) (by omega)).1
  have h2 := (put_two (n := j) (by omega) (by omega)).1
  unfold bodyS
  rw [ByteArray.size_append, h1, h2]
theorem bodyG_put {s j : Int} (h : RightP s j) : bodyG (padS (bodyS s j)) = (s, j, 0) := by
  have hp := h
  unfold RightP at h
  obtain ⟨h1, g1⟩ := put_two (n := s) (by omega) (by omega)
  obtain ⟨h2, g2⟩ := put_two (n := j) (by omega) (by omega)
  unfold bodyG bodyS
  rw [if_pos (pad_rest _ _ h1 h2), pad_first _ _ h1 h2, pad_second _ _ h1 h2, g1, g2, if_pos hp]
theorem getF_two (b : ByteArray) (h : b.size = 2) : 0 ≤ getF b ∧ getF b < 65536 := by
  rw [Le.getF_yes (by omega)]
  have := Le.leVal_lt b.data.toList
  rw [len_of h] at this
  exact ⟨by omega, by omega⟩

end Go.Proofs.YtadimbpgdihjlabDoor.Su
