/-
  'code' of layer 1's statements, and In.Noughts, by their contracts. Condition: errors.errorType holds its handle.
-/
import Derived.Test.YtkfphmhnaelflacGreatDoorLeSp
import Derived.Test.YtkfphmhnaelflacGreatDoorLeAs
import Derived.Test.YtkfphmhnaelflacGreatDoorLeTrim
namespace Go.Proofs.YtkfphmhnaelflacGreatDoor.Le
open Go.ChangeShapes Go.WideShapes Go.ChangeAt Go.RowKit Go.Lib
open Go.Proofs.YtkfphmhnaelflacGreatDoor.As (ErrT as_into)
open Go.Proofs.YtkfphmhnaelflacGreatDoor.Trim (AllZ trim_any trim_empty drewN_below)

/-- What Noughts leaves. -/
def noughtsF (s : ByteArray) (e size : Int) : ByteArray × Int :=
  if (takeF s e size).1.data.toList.all (fun c => c == 0) then (takeF s e size).2 else failF (takeF s e size).2.1 (takeF s e size).2.2 4

theorem takeF_size (s : ByteArray) (e size : Int) : (takeF s e size).1.size ≤ s.size := by
  unfold takeF
  split
  · simp
  · split
    · simp
    · split
      · simp
      · simp; omega

theorem Only.drewN {b : Nat} {w w' : World} (h : Only b w w') (n : Nat) : Only b w (w'.drewN n) := ⟨h.os, h.tape, h.output, h.size, h.block⟩
theorem InS.drewN {w : World} {b : Nat} {s : ByteArray} {e : Int} (h : InS w b s e) (n : Nat) : InS (w.drewN n) b s e := h

set_option maxRecDepth 100000 in
set_option maxHeartbeats 400000 in
/-- Noughts, of an In that isn't nil. -/
theorem noughts_any (w : World) (b : Nat) (s : ByteArray) (e size : Int) (h : InS w b s e) (hs : s.size ≤ 9223372036854775807) :
    Calls Tryz.prog 47 #[.pointer (some ⟨b, 0, none⟩), .int .i64 size] w fun r w' => r = .returned (.tuple #[]) ∧ InS w' b (noughtsF s e size).1 (noughtsF s e size).2 ∧ Only b w w' := by
  have hsz := takeF_size s e size
  have HF : Hid (noughtsF s e size = if (takeF s e size).1.data.toList.all (fun c => c == 0) then (takeF s e size).2 else failF (takeF s e size).2.1 (takeF s e size).2.2 4) := rfl
  have HI : Hid (InS w b s e) := h
  clear h
  go_enter Tryz.func47, Tryz.ntmps47
  go_wp2_with fail
  refine (intext_any w b s e size HI.out).mono ?_
  rintro r w1 ⟨rfl, hi, ho⟩
  generalize takeF s e size = t at *
  obtain ⟨t1, t2, t3⟩ := t
  go_wp2_with fail
  refine (trim_any _ _ (by omega)).mono ?_
  rintro r w2 ⟨⟨u, rfl, hu⟩, n, rfl⟩
  have hi2 := hi.drewN n
  have ho2 := ho.drewN n
  by_cases hz : u = ByteArray.empty
  · have q := isEmpty_true hz
    have e1 : (t1.data.toList.all fun c => c == 0) = true := by
      rw [List.all_eq_true]; intro c hc; rw [beq_iff_eq]; exact hu.1 hz c hc
    have HF2 : Hid (noughtsF s e size = (t2, t3)) := by show noughtsF s e size = _; rw [HF.out]; rw [if_pos e1]
    clear hz hu e1 hi ho
    go_wp2
    go_end0
    rw [HF2.out]
    exact ⟨rfl, hi2, ho2⟩
  · have q := isEmpty_false hz
    have e1 : ¬ (t1.data.toList.all fun c => c == 0) = true := by
      rw [List.all_eq_true]; intro hall; exact hz (hu.2 (fun c hc => beq_iff_eq.1 (hall c hc)))
    have HF2 : Hid (noughtsF s e size = failF t2 t3 4) := by show noughtsF s e size = _; rw [HF.out]; rw [if_neg e1]
    clear hz hu e1 hi ho
    go_wp2_with fail
    refine (fail_any _ b t2 t3 4 (by decide) hi2).mono ?_
    rintro r w3 ⟨rfl, hi3, ho3⟩
    go_wp2
    go_end0
    rw [HF2.out]
    exact ⟨rfl, hi3, ho2.trans ho3⟩

set_option maxRecDepth 100000 in
set_option maxHeartbeats 400000 in
theorem noughts_nil (w : World) (size : Int) :
    Calls Tryz.prog 47 #[.pointer none, .int .i64 size] w fun r w' => r = .returned (.tuple #[]) ∧ w' = w := by
  go_enter Tryz.func47, Tryz.ntmps47
  go_wp2_with fail
  refine (intext_nil w size).mono ?_
  rintro r w ⟨rfl, rfl⟩
  go_wp2_with fail
  refine (trim_empty _).mono ?_
  rintro r w ⟨rfl, rfl⟩
  go_wp2
  go_end0
  exact ⟨rfl, rfl⟩

end Go.Proofs.YtkfphmhnaelflacGreatDoor.Le
