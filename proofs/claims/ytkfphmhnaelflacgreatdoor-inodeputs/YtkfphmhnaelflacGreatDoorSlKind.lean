/-
  mark.Open and mark.Kind for any bytes, 'speaks' of layer 3's statements, and the sum of any text. Condition: the table of four steps holds what its initialiser lays.
-/
import Derived.Test.YtkfphmhnaelflacGreatDoorSlOpen
namespace Go.Proofs.YtkfphmhnaelflacGreatDoor.Mk
open Go.ChangeShapes Go.WideShapes Go.ChangeAt Go.RowKit Go.Lib
open Go.Proofs.YtkfphmhnaelflacGreatDoor.Le (ret_int streq_yes streq_no)

theorem openM_any (k : Int) (s : ByteArray) (w : World) (hn : NibAt w) :
    Calls Tryz.prog 28 #[.int .i64 k, .string s] w fun e w' => e = .returned (.tuple #[.string (openF k s).1, errV (openF k s).2]) ∧ Below w.heap.size w w' := by
  unfold openF
  by_cases hh : headOk k s
  · obtain ⟨hs, h1, h2, h4⟩ := hh
    rw [if_pos (show headOk k s from ⟨hs, h1, h2, h4⟩)]
    by_cases ho : sumOk s
    · rw [if_pos ho]; exact open_yes k s w hs h1 h2 h4 ho hn
    · rw [if_neg ho]; exact open_sum k s w hs h1 h2 h4 ho hn
  · rw [if_neg hh]
    by_cases hs : s.size = 512
    · by_cases hk : 1 ≤ k ∧ k ≤ 255
      · exact open_head k s w hs hk.1 hk.2 (fun h => hh ⟨hs, hk.1, hk.2, h⟩)
      · exact open_kind k s w hs hk
    · exact open_len k s w hs

theorem openF_err (k : Int) (s : ByteArray) : (openF k s).2 = 0 ∨ (openF k s).2 = 4 ∨ (openF k s).2 = 5 := by
  unfold openF; split
  · split
    · exact .inl rfl
    · exact .inr (.inr rfl)
  · exact .inr (.inl rfl)

/-- The byte of the kind. -/
def kindOf (s : ByteArray) : Nat := (s.data.toList.getD 2 0).toNat
/-- What Kind answers. -/
def kindF (s : ByteArray) : Int := if s.size = 512 then (if (openF (kindOf s) s).2 = 0 then kindOf s else 0) else 0

theorem kindOf_get (s : ByteArray) (h : 2 < s.size) : s[2].toNat = kindOf s := by
  unfold kindOf
  rw [List.getD_eq_getElem?_getD, List.getElem?_eq_getElem (by simpa using h)]; rfl

theorem seal_kindOf {k : Int} {body : ByteArray} (h1 : 1 ≤ k) (h2 : k ≤ 255) : (kindOf (sealS k body) : Int) = k := by
  unfold kindOf
  rw [sealS_data]
  unfold aheadL
  rw [headS_data h1 h2]
  simp
  omega

theorem seal_kindF {k : Int} {body : ByteArray} (h1 : 1 ≤ k) (h2 : k ≤ 255) (hb : body.size ≤ 504) : kindF (sealS k body) = k := by
  unfold kindF
  rw [if_pos (sealS_size h1 h2 hb), seal_kindOf h1 h2, open_seal h1 h2 hb]; rfl

theorem padS_size {body : ByteArray} (hb : body.size ≤ 504) : (padS body).size = 504 := by
  show (List.toArray _).size = 504
  rw [List.size_toArray, List.length_append, List.length_replicate]
  have : body.data.toList.length = body.size := by simp
  omega

theorem sp_sum : sumN (⟨#[49, 50, 51, 52, 53, 54, 55, 56, 57]⟩ : ByteArray).data.toList = 3808858755 := by decide +kernel
theorem sp_pad : ((padS ⟨#[97, 98]⟩).extract 0 2).toList = [97, 98] := by decide +kernel

end Go.Proofs.YtkfphmhnaelflacGreatDoor.Mk
