/-
  LeNumbers answers true for every input: any number in any count of bytes, and back. No condition.
-/
import Derived.Test.YtmcaiaafdbeihaaLeApart
namespace Go.Proofs.Ytmcaiaafdbeihaa.Le
open Go.ChangeShapes Go.WideShapes Go.ChangeAt Go.RowKit Go.Lib

theorem below3 {w w1 w2 w3 : World} (h1 : Below w.heap.size w w1) (h2 : Below w1.heap.size w1 w2) (h3 : Below w2.heap.size w2 w3) : Below w.heap.size w w3 :=
  (h1.trans (h2.mono h1.size)).trans (h3.mono (Nat.le_trans h1.size h2.size))

set_option maxHeartbeats 400000 in
theorem leNumbers_walk (n size : Int) (s : ByteArray) (w : World) (hn : n ≤ 9223372036854775807) :
    Calls Try.prog 3 #[.int .i64 n, .int .i64 size, .string s] w fun r w' => r = .returned (.bool true) ∧ Below w.heap.size w w' := by
  have q1 : ((putF n size).toList == (putF n size).toList) = true := streq_yes rfl
  have q3 : (getF s == getF s) = true := by simp
  have hs : s.size ≤ 100 ∨ 100 < s.size := by omega
  by_cases he : putF n size = ByteArray.empty
  · have q2 := isEmpty_true he
    clear he
    rcases hs with hs | hs
    · go_enter Try.func3, Try.ntmps3
      go_wp2_with (go_at_call 5; refine (speaks_any _).mono ?_; rintro r w1 ⟨rfl, hb1⟩)
      refine (put_any _ _ _).mono ?_
      rintro r w2 ⟨rfl, hb2⟩
      go_wp2_with fail
      refine (refput_any _ _ _ hn).mono ?_
      rintro r w3 ⟨rfl, hb3⟩
      go_wp2_with fail
      refine (get_any _ _).mono ?_
      rintro r w3 ⟨rfl, rfl⟩
      go_wp2_with fail
      refine (refget_any _ _).mono ?_
      rintro r w3 ⟨rfl, rfl⟩
      go_wp2
      go_ret
      exact ⟨rfl, below3 hb1 hb2 hb3⟩
    · go_enter Try.func3, Try.ntmps3
      go_wp2_with (go_at_call 5; refine (speaks_any _).mono ?_; rintro r w1 ⟨rfl, hb1⟩)
      refine (put_any _ _ _).mono ?_
      rintro r w2 ⟨rfl, hb2⟩
      go_wp2_with fail
      refine (refput_any _ _ _ hn).mono ?_
      rintro r w3 ⟨rfl, hb3⟩
      go_wp2
      go_ret
      exact ⟨rfl, below3 hb1 hb2 hb3⟩
  · have q2 := isEmpty_false he
    have q4 : (getF (putF n size) == n) = true := beq_iff_eq.2 (getF_putF he)
    clear he
    rcases hs with hs | hs
    · go_enter Try.func3, Try.ntmps3
      go_wp2_with (go_at_call 5; refine (speaks_any _).mono ?_; rintro r w1 ⟨rfl, hb1⟩)
      refine (put_any _ _ _).mono ?_
      rintro r w2 ⟨rfl, hb2⟩
      go_wp2_with fail
      refine (refput_any _ _ _ hn).mono ?_
      rintro r w3 ⟨rfl, hb3⟩
      go_wp2_with fail
      refine (get_any _ _).mono ?_
      rintro r w3 ⟨rfl, rfl⟩
      go_wp2_with fail
      refine (get_any _ _).mono ?_
      rintro r w3 ⟨rfl, rfl⟩
      go_wp2_with fail
      refine (refget_any _ _).mono ?_
      rintro r w3 ⟨rfl, rfl⟩
      go_wp2
      go_ret
      exact ⟨rfl, below3 hb1 hb2 hb3⟩
    · go_enter Try.func3, Try.ntmps3
      go_wp2_with (go_at_call 5; refine (speaks_any _).mono ?_; rintro r w1 ⟨rfl, hb1⟩)
      refine (put_any _ _ _).mono ?_
      rintro r w2 ⟨rfl, hb2⟩
      go_wp2_with fail
      refine (refput_any _ _ _ hn).mono ?_
      rintro r w3 ⟨rfl, hb3⟩
      go_wp2_with fail
      refine (get_any _ _).mono ?_
      rintro r w3 ⟨rfl, rfl⟩
      go_wp2
      go_ret
      exact ⟨rfl, below3 hb1 hb2 hb3⟩

theorem leNumbers_calls (n size : Int) (s : ByteArray) (w : World) (h0 : (Lit.int .i64 n).wf = true) (_ : (Lit.int .i64 size).wf = true) (_ : s.size ≤ maxLen) :
    Calls Try.prog 3 #[.int .i64 n, .int .i64 size, .string s] w fun r w' => r = .returned (.bool true) ∧ Below w.heap.size w w' :=
  leNumbers_walk n size s w (wf64 h0).2

end Go.Proofs.Ytmcaiaafdbeihaa.Le
