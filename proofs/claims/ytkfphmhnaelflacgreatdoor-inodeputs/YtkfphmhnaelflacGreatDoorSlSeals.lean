/-
  The statements on sealing and opening any bytes, as walks. Condition: the table of four steps holds what its initialiser lays, and errors.errorType its handle.
-/
import Derived.Test.YtkfphmhnaelflacGreatDoorSlRef
import Derived.Test.YtkfphmhnaelflacGreatDoorZsMake
import Derived.Test.YtkfphmhnaelflacGreatDoorFaNumber
namespace Go.Proofs.YtkfphmhnaelflacGreatDoor.Mk
open Go.ChangeShapes Go.WideShapes Go.ChangeAt Go.RowKit Go.Lib
open Go.Proofs.YtkfphmhnaelflacGreatDoor.Le (ret_int streq_yes streq_no)
open Go.Proofs.YtkfphmhnaelflacGreatDoor.Zs (zstr zstr_size zstr_data make_run conv_made0)
open Go.Proofs.YtkfphmhnaelflacGreatDoor.As (ErrT)

theorem number_errV (e : Int) (w : World) (hE : ErrT w) : Calls Tryz.prog 24 #[errV e] w fun r w' => r = .returned (.int .i64 e) ∧ Below w.heap.size w w' := by
  by_cases he : e = 0
  · subst he; exact Fa.Number_nil w
  · rw [errV_pos he]
    exact (Fa.Number_any (some (some e)) (by simp) [] 57 (.int .i64 e) w (by simp) rfl hE).mono fun r w' h => h

theorem openF_body (k : Int) (s : ByteArray) : (openF k s).2 ≠ 0 → (openF k s).1 = ByteArray.empty := by
  unfold openF; split
  · split
    · intro h; exact absurd rfl h
    · intro _; rfl
  · intro _; rfl

theorem pad_more (a : ByteArray) : a ++ zstr (504 - a.size) = padS a := by
  apply ext_bytes
  rw [ByteArray.data_append, Array.toList_append, zstr_data]
  show _ = (List.toArray _).toList
  rw [List.toList_toArray]

theorem open_other {k l : Int} {body : ByteArray} (h1 : 1 ≤ k) (h2 : k ≤ 255) (l1 : 1 ≤ l) (l2 : l ≤ 255) (hb : body.size ≤ 504) (hkl : l ≠ k) : openF l (sealS k body) = (ByteArray.empty, 4) := by
  unfold openF
  rw [if_neg]
  rintro ⟨_, _, _, h⟩
  rw [(seal_head h1 h2 hb).2.2.2] at h
  exact hkl (headS_inj l1 l2 h1 h2 h.symm)

theorem kindF_empty : kindF ByteArray.empty = 0 := rfl

end Go.Proofs.YtkfphmhnaelflacGreatDoor.Mk
