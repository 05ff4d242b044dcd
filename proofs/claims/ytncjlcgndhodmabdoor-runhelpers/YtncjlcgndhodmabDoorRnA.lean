/-
  Layer 20's small calls: are there so many bytes, at how many a helper looks at most, the comparing of two texts. Condition: the numbers are no machine's limits.
-/
import Derived.Test.YtncjlcgndhodmabDoorRnM
import Derived.Lib.Bytealg
namespace Go.Proofs.YtncjlcgndhodmabDoor.Rn
open Go.ChangeShapes Go.WideShapes Go.ChangeAt Go.RowKit

set_option maxRecDepth 100000
set_option maxHeartbeats 1000000

/-- Are there n bytes from a place on, of so many in all? -/
def areF (a n all : Int) : Bool := decide (0 ≤ a ∧ 0 ≤ n ∧ a ≤ all - n)
theorem are_any (a n all : Int) (w : World) (h : 0 ≤ all ∧ all ≤ 1000000) (hn : n ≤ 9223372036854775807) :
    Calls Tryd.prog 29 #[.int .i64 a, .int .i64 n, .int .i64 all] w fun r w' => r = .returned (.bool (areF a n all)) ∧ w' = w := by
  by_cases h1 : 0 ≤ a
  · by_cases h2 : 0 ≤ n
    · have hw : IntKind.i64.wrap (all - n) = all - n := IntWalk.i64_in _ (by omega)
      have he : areF a n all = decide (a ≤ all - n) := by unfold areF; rw [decide_eq_decide]; omega
      go_enter Tryd.func29, Tryd.ntmps29
      go_wp2
      go_ret
      exact ⟨by rw [he]; rfl, rfl⟩
    · have hd : decide (0 ≤ n) = false := decide_eq_false h2
      have he : areF a n all = false := by unfold areF; exact decide_eq_false (by omega)
      clear h2
      go_enter Tryd.func29, Tryd.ntmps29
      go_wp2
      go_ret
      exact ⟨by rw [he]; rfl, rfl⟩
  · have hd : decide (0 ≤ a) = false := decide_eq_false h1
    have he : areF a n all = false := by unfold areF; exact decide_eq_false (by omega)
    clear h1
    go_enter Tryd.func29, Tryd.ntmps29
    go_wp2
    go_ret
    exact ⟨by rw [he]; rfl, rfl⟩

/-- At how many bytes a helper looks at most. -/
def mostF (k : Int) : Int := if k = 1 then 16 else if k = 2 then 24 else 0
theorem most_any (k : Int) (w : World) : Calls Tryd.prog 33 #[.int .i64 k] w fun r w' => r = .returned (.int .i64 (mostF k)) ∧ w' = w := by
  by_cases h1 : k = 1
  · subst h1
    go_enter Tryd.func33, Tryd.ntmps33
    go_wp2
    go_ret
    exact ⟨rfl, rfl⟩
  · by_cases h2 : k = 2
    · subst h2
      go_enter Tryd.func33, Tryd.ntmps33
      go_wp2
      go_ret
      exact ⟨rfl, rfl⟩
    · have e : mostF k = 0 := by unfold mostF; rw [if_neg h1, if_neg h2]
      have d1 : (k == 1) = false := beq_eq_false_iff_ne.2 h1
      have d2 : (k == 2) = false := beq_eq_false_iff_ne.2 h2
      clear h1 h2
      rw [e]
      go_enter Tryd.func33, Tryd.ntmps33
      go_wp2
      go_ret
      exact ⟨rfl, rfl⟩

theorem cmpString_any (a b : ByteArray) (w : World) :
    Calls Tryd.prog 44 #[.string a, .string b] w fun e w' => e = .returned (.int .i64 (Lib.compareBytes a.data.toList b.data.toList)) ∧ w' = w := by
  go_enter Tryd.func44, Tryd.ntmps44
  go_wp2
  rw [run_callFunc_extern Tryd.func51 (by kernel_rfl) (by kernel_rfl) (by kernel_rfl) (e := Extern.BytealgCompare.compare) (by kernel_rfl), Lib.run_compareString]
  simp only [Result.andThen]
  rw [Oper.upon_value]
  go_wp2
  go_ret
  exact ⟨rfl, rfl⟩

theorem compare_any (a b : ByteArray) (w : World) :
    Calls Tryd.prog 34 #[.string a, .string b] w fun e w' => e = .returned (.int .i64 (Lib.compareBytes a.data.toList b.data.toList)) ∧ w' = w := by
  go_enter Tryd.func34, Tryd.ntmps34
  go_wp2_with fail
  refine (cmpString_any a b w).mono ?_
  rintro r w1 ⟨rfl, hw1⟩
  subst hw1
  go_wp2
  go_ret
  exact ⟨rfl, rfl⟩

end Go.Proofs.YtncjlcgndhodmabDoor.Rn
