/-
  The program's Put of a program of any length. No condition.
-/
import Derived.Test.YtielliiadacbbaaDoorCdPut
namespace Go.Proofs.YtielliiadacbbaaDoor.Cd
open Go.ChangeShapes Go.WideShapes Go.ChangeAt Go.RowKit
open Go.Proofs.YtielliiadacbbaaDoor.Le (errV)

set_option maxRecDepth 100000
set_option maxHeartbeats 1000000

theorem put_long (v : Value) (l : List In4) (w : World) (h : InsAt w v l) (hl : 128 < l.length) :
    Calls Tryd.prog 9 #[v] w fun r w' => r = .returned (.tuple #[.string ByteArray.empty, errV 10]) ∧ w' = w := by
  obtain ⟨a, cap, rfl⟩ := h.slice
  have hgt : decide ((128 : Int) < (l.length : Int)) = true := decide_eq_true (by omega)
  clear h
  generalize l.length = n at *
  go_enter Tryd.func9, Tryd.ntmps9
  go_wp2_with fail
  go_ret2
  exact ⟨rfl, rfl⟩

/-- What is wrong with a program. -/
def putE (l : List In4) : Int := if 128 < l.length then 10 else if l.all (fun x => decide (RightP x)) = true then 0 else 1
def putS (l : List In4) : ByteArray := if putE l = 0 then ⟨(progB l).toArray⟩ else ByteArray.empty
theorem putE_zero {l : List In4} : putE l = 0 ↔ l.length ≤ 128 ∧ ∀ x ∈ l, RightP x := by
  unfold putE
  by_cases h : 128 < l.length
  · rw [if_pos h]
    exact ⟨(fun h => by cases h), (fun h' => by omega)⟩
  · rw [if_neg h]
    by_cases hr : l.all (fun x => decide (RightP x)) = true
    · rw [if_pos hr]
      exact ⟨fun _ => ⟨by omega, fun x hx => of_decide_eq_true (List.all_eq_true.1 hr x hx)⟩, fun _ => rfl⟩
    · rw [if_neg hr]
      exact ⟨(fun h => by cases h), fun h' => absurd (List.all_eq_true.2 (fun x hx => decide_eq_true (h'.2 x hx))) hr⟩
theorem put_all (v : Value) (l : List In4) (w : World) (h : InsAt w v l) :
    Calls Tryd.prog 9 #[v] w fun r w' => r = .returned (.tuple #[.string (putS l), errV (putE l)]) ∧ Below w.heap.size w w' := by
  by_cases hl : 128 < l.length
  · have he : putE l = 10 := if_pos hl
    have hs : putS l = ByteArray.empty := by unfold putS; rw [he]; rfl
    rw [he, hs]
    refine (put_long v l w h hl).mono ?_
    rintro r w' ⟨rfl, rfl⟩
    exact ⟨rfl, Below.refl _ _⟩
  · refine (put_any v l w h (by omega)).mono ?_
    rintro r w' ⟨rfl, hb⟩
    refine ⟨?_, hb⟩
    unfold putR
    by_cases hr : l.all (fun x => decide (RightP x)) = true
    · have he : putE l = 0 := by unfold putE; rw [if_neg hl, if_pos hr]
      have hs : putS l = ⟨(progB l).toArray⟩ := by unfold putS; rw [he]; rfl
      rw [if_pos hr, he, hs]
      rfl
    · have he : putE l = 1 := by unfold putE; rw [if_neg hl, if_neg hr]
      have hs : putS l = ByteArray.empty := by unfold putS; rw [he]; rfl
      rw [if_neg hr, he, hs]
      rfl

end Go.Proofs.YtielliiadacbbaaDoor.Cd
