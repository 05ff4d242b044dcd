/-
  LeApart answers true for every input: two numbers of one size have the same bytes just where they are the same. No condition.
-/
import Derived.Test.YtmcaiaafdbeihaaLeSp
import Derived.Deep.QuietTactic
import Derived.BigQuiet
namespace Go.Proofs.Ytmcaiaafdbeihaa.Le
open Go.ChangeShapes Go.WideShapes Go.ChangeAt Go.RowKit Go.Lib

theorem wf64 {n : Int} (h : (Lit.int .i64 n).wf = true) : -9223372036854775808 ≤ n ∧ n ≤ 9223372036854775807 := by
  simp only [Lit.wf, IntKind.min, IntKind.max, IntKind.signed, IntKind.bits, Bool.and_eq_true, decide_eq_true_eq, if_true] at h
  omega

set_option maxHeartbeats 400000 in
theorem leApart_walk (a b size : Int) (w : World) :
    Calls Try.prog 4 #[.int .i64 a, .int .i64 b, .int .i64 size] w fun r w' => r = .returned (.bool true) ∧ Below w.heap.size w w' := by
  go_enter Try.func4, Try.ntmps4
  go_wp2_with (go_at_call 5; refine (speaks_any _).mono ?_; rintro r w1 ⟨rfl, hb1⟩)
  obtain ⟨k, hk, k1, k7⟩ : ∃ k, wrap64 (1 + (wrap64 (size.tmod 7 + 7)).tmod 7) = k ∧ 1 ≤ k ∧ k ≤ 7 := by
    refine ⟨_, rfl, ?_⟩
    rw [tmod_fix size 7 (by decide) (by decide)]
    unfold wrap64; omega
  rw [hk]
  clear hk
  generalize wrap64 (size.tmod 7 + 7) = x1
  generalize x1.tmod 7 = x2
  generalize size.tmod 7 = x3
  go_quiet (fail)
  rw [mask_fix k k1 k7, mask_fix k k1 k7]
  generalize (wrap64 (wrap64 (2 ^ (8 * k).toNat) - 1)) = m1
  generalize wrap64 (2 ^ (8 * k).toNat) = m2
  obtain ⟨x, hx, hx0, hx1⟩ : ∃ x, a % 2 ^ (8 * k).toNat = x ∧ 0 ≤ x ∧ x < 2 ^ (8 * k).toNat :=
    ⟨_, rfl, Int.emod_nonneg _ (Int.ne_of_gt (Int.pow_pos (by decide))), Int.emod_lt_of_pos _ (Int.pow_pos (by decide))⟩
  obtain ⟨y, hy, hy0, hy1⟩ : ∃ y, b % 2 ^ (8 * k).toNat = y ∧ 0 ≤ y ∧ y < 2 ^ (8 * k).toNat :=
    ⟨_, rfl, Int.emod_nonneg _ (Int.ne_of_gt (Int.pow_pos (by decide))), Int.emod_lt_of_pos _ (Int.pow_pos (by decide))⟩
  rw [hx, hy]
  clear hx hy
  obtain ⟨ex, px, nx⟩ := putF_in k1 k7 hx0 hx1
  obtain ⟨ey, py, ny⟩ := putF_in k1 k7 hy0 hy1
  have gx := getF_putF nx
  have gy := getF_putF ny
  have HQ : Hid (putF x k = putF y k ↔ x = y) := ⟨fun h => by rw [← gx, ← gy, h], fun h => by rw [h]⟩
  have HG : Hid (getF (putF x k) = x) := gx
  have l1 : (((putF x k).size : Int) == k) = true := by rw [px]; simp; omega
  have l2 : (((putF y k).size : Int) == k) = true := by rw [py]; simp; omega
  clear hx1 hy1 px py nx ny gx gy ex ey
  have hb2 : Below w.heap.size w (w1.drewN nq) := ⟨hb1.os, hb1.tape, hb1.output, hb1.size, hb1.block⟩
  have HB : Hid (Below w.heap.size w (w1.drewN nq)) := hb2
  clear hb1 hb2
  generalize w1.drewN nq = w2 at *
  by_cases hxy : x = y
  · have q1 : ((putF x k).toList == (putF y k).toList) = true := streq_yes (HQ.out.2 hxy)
    have q2 : (x == y) = true := beq_iff_eq.2 hxy
    have q3 : (getF (putF x k) == x) = true := beq_iff_eq.2 HG.out
    clear hxy
    go_wp2_with fail
    refine (put_any _ _ _).mono ?_
    rintro r w3 ⟨rfl, hb3⟩
    go_wp2_with fail
    refine (put_any _ _ _).mono ?_
    rintro r w4 ⟨rfl, hb4⟩
    go_wp2_with (go_at_call 8; refine (get_any _ _).mono ?_; rintro r w4 ⟨rfl, rfl⟩)
    go_ret
    exact ⟨rfl, (HB.out.trans (hb3.mono HB.out.size)).trans (hb4.mono (Nat.le_trans HB.out.size hb3.size))⟩
  · have q1 : ((putF x k).toList == (putF y k).toList) = false := streq_no (fun h => hxy (HQ.out.1 h))
    have q2 : (x == y) = false := beq_eq_false_iff_ne.2 hxy
    have q3 : (getF (putF x k) == x) = true := beq_iff_eq.2 HG.out
    clear hxy
    go_wp2_with fail
    refine (put_any _ _ _).mono ?_
    rintro r w3 ⟨rfl, hb3⟩
    go_wp2_with fail
    refine (put_any _ _ _).mono ?_
    rintro r w4 ⟨rfl, hb4⟩
    go_wp2_with (go_at_call 8; refine (get_any _ _).mono ?_; rintro r w4 ⟨rfl, rfl⟩)
    go_ret
    exact ⟨rfl, (HB.out.trans (hb3.mono HB.out.size)).trans (hb4.mono (Nat.le_trans HB.out.size hb3.size))⟩

theorem leApart_calls (a b size : Int) (w : World) (_ : (Lit.int .i64 a).wf = true) (_ : (Lit.int .i64 b).wf = true) (_ : (Lit.int .i64 size).wf = true) :
    Calls Try.prog 4 #[.int .i64 a, .int .i64 b, .int .i64 size] w fun r w' => r = .returned (.bool true) ∧ Below w.heap.size w w' := leApart_walk a b size w

end Go.Proofs.Ytmcaiaafdbeihaa.Le
