/-
  Layer 18's law: what the document's Times is; the law's spans, and a number of one. No condition.
-/
import Derived.Test.YtgfbcekmnpdoeabSnR
namespace Go.Proofs.Ytgfbcekmnpdoeab.Sn
open Go.ChangeShapes Go.WideShapes Go.ChangeAt Go.RowKit
open Go.Proofs.Ytgfbcekmnpdoeab.Nv (lt_of_heap lt_of_cell cell_of_heap free_of_heap)

set_option maxRecDepth 100000
set_option maxHeartbeats 1000000

def intOf : Value → Int | .int _ n => n | _ => 0
/-- A product by hand, under way. -/
def UnderM (K A N P : Nat) : Prop := N ≤ 2147483648 ∧ ((P + A * N = K ∧ P ≤ 1099511627776 ∧ A ≤ 2199023255552) ∨ (N = 0 ∧ P = 1099511627776 ∧ 1099511627776 < K ∧ A ≤ 4398046511104))
theorem UnderM.big {K A N P : Nat} (h : UnderM K A N P) : A ≤ 4398046511104 ∧ P ≤ 1099511627776 := by
  rcases h.2 with ⟨_, h1, h2⟩ | ⟨_, h1, _, h2⟩ <;> omega
theorem UnderM.done {K A P : Nat} (h : UnderM K A 0 P) : P = topF K := by
  unfold topF
  rcases h.2 with ⟨h0, h1, h2⟩ | ⟨_, h1, h2, _⟩
  · rw [Nat.mul_zero, Nat.add_zero] at h0
    rw [if_neg (by omega)]; exact h0
  · rw [if_pos h2]; exact h1
theorem UnderM.live {K A N P : Nat} (h : UnderM K A N P) (hn : 0 < N) : P + A * N = K ∧ P ≤ 1099511627776 ∧ A ≤ 2199023255552 := by
  rcases h.2 with h | ⟨h0, _⟩
  · exact h
  · omega
/-- What is added, and how it goes on. -/
def addM (A N P : Nat) : Nat := if N % 2 = 1 then P + A else P
theorem UnderM.step {K A N P : Nat} (h : UnderM K A N P) (hn : 0 < N) (hs : ¬ (1099511627776 < addM A N P ∨ (1099511627776 < A ∧ 1 < N))) : UnderM K (A * 2) (N / 2) (addM A N P) := by
  obtain ⟨h0, h1, h2⟩ := h.live hn
  have hA : A ≤ 1099511627776 := by
    rcases Nat.lt_or_ge 1099511627776 A with hl | hl
    · obtain rfl : N = 1 := by omega
      unfold addM at hs
      rw [if_pos rfl] at hs
      omega
    · exact hl
  refine ⟨by have := h.1; omega, .inl ⟨?_, by omega, by omega⟩⟩
  unfold addM
  have hm : A * N = A * 2 * (N / 2) + A * (N % 2) := by
    have := congrArg (A * ·) (Nat.div_add_mod N 2)
    simp only [Nat.mul_add] at this
    rw [← this, Nat.mul_assoc]
  split
  · rename_i h5
    rw [h5, Nat.mul_one] at hm
    omega
  · have h5 : N % 2 = 0 := by omega
    rw [h5, Nat.mul_zero] at hm
    omega
theorem UnderM.stop {K A N P : Nat} (h : UnderM K A N P) (hn : 0 < N) (hs : 1099511627776 < addM A N P ∨ (1099511627776 < A ∧ 1 < N)) : UnderM K (A * 2) 0 1099511627776 := by
  obtain ⟨h0, h1, h2⟩ := h.live hn
  refine ⟨by omega, .inr ⟨rfl, rfl, ?_, by omega⟩⟩
  rcases hs with hs | ⟨hs, hs2⟩
  · unfold addM at hs
    split at hs
    · have : A * 1 ≤ A * N := Nat.mul_le_mul_left A hn
      omega
    · omega
  · have : A * 2 ≤ A * N := Nat.mul_le_mul_left A hs2
    omega

theorem times_11 (x n : Int) (w : World) (hx : -1099511627776 ≤ x ∧ x ≤ 1099511627776) (hx0 : x < 0) (hn0 : n < 0) (hn : -2147483648 ≤ n ∧ n ≤ 2147483648) :
    Calls Try.prog 9 #[.int .i64 x, .int .i64 n] w fun r w' => r = .returned (.int .i64 (capF (x * n))) ∧ w' = w := by
  have HE : Hid (capF (x * n) = (topF (x.natAbs * n.natAbs) : Int)) := by
    show _ = _
    have hx' := hx0
    have hn' := hn0
    rw [cap_top, (decide_eq_true hx0), (decide_eq_true hn0)]
    rfl
  have hdx : decide (x < 0) = true := (decide_eq_true hx0)
  have hdn : decide (n < 0) = true := (decide_eq_true hn0)
  have hwx : IntKind.i64.wrap (-x) = -x := IntWalk.i64_in _ (by omega)
  have hwn : IntKind.i64.wrap (-n) = -n := IntWalk.i64_in _ (by omega)
  have e1 : Value.int .i64 (-x) = Value.int .i64 (x.natAbs : Int) := congrArg (Value.int .i64) (by omega)
  have e2 : Value.int .i64 (-n) = Value.int .i64 (n.natAbs : Int) := congrArg (Value.int .i64) (by omega)
  obtain ⟨K, hK⟩ : ∃ K, x.natAbs * n.natAbs = K := ⟨_, rfl⟩
  rw [hK] at HE
  have HU : Hid (UnderM K x.natAbs n.natAbs 0) := ⟨by omega, .inl ⟨by omega, by omega, by omega⟩⟩
  have HS : Hid (Value.int .i64 (-x) = Value.int .i64 (x.natAbs : Int) ∧ Value.int .i64 (-n) = Value.int .i64 (n.natAbs : Int)) := ⟨e1, e2⟩
  clear hK e1 e2 hx hn
  go_enter Try.func9, Try.ntmps9
  go_wp2_with fail
  clear hx0 hn0 hdx hdn
  go_loopw [0, 1, 6] (fun av nv pv wr => wr = w ∧ ∃ A N P : Nat, av = .int .i64 A ∧ nv = .int .i64 N ∧ pv = .int .i64 P ∧ UnderM K A N P) (fun _ nv _ _ => (intOf nv).toNat)
  case atStart => exact ⟨rfl, x.natAbs, n.natAbs, 0, HS.out.1, HS.out.2, rfl, HU.out⟩
  case round =>
    obtain ⟨rfl, A, N, P, rfl, rfl, rfl, hu⟩ := hrel
    have HV : Hid (UnderM K A N P) := hu
    obtain ⟨hA, hP⟩ := hu.big
    have hN := hu.1
    clear hu HU
    by_cases h0 : N = 0
    · subst h0
      have HD : Hid (P = topF K) := HV.out.done
      have hwp : IntKind.i64.wrap (-(P : Int)) = -(P : Int) := IntWalk.i64_in _ (by omega)
      go_wp2
      go_ret
      exact ⟨by rw [HE.out, ← HD.out]; rfl, rfl⟩
    · have hN0 : 0 < N := by omega
      have hgt : decide ((0 : Int) < (N : Int)) = true := decide_eq_true (by omega)
      have hw1 : IntKind.i64.wrap ((P : Int) + A) = ((P + A : Nat) : Int) := (IntWalk.i64_in _ (by omega)).trans (by omega)
      have hw2 : IntKind.i64.wrap ((A : Int) * 2) = ((A * 2 : Nat) : Int) := (IntWalk.i64_in _ (by omega)).trans (by omega)
      have hw3 : wrap64 ((N : Int) / 2) = ((N / 2 : Nat) : Int) := by unfold wrap64; omega
      go_wp2
      all_goals simp only [beq_iff_eq, beq_eq_false_iff_ne, ne_eq] at *
      all_goals first
        | exact ⟨⟨True.intro, A * 2, N / 2, addM A N P, congrArg (Value.int .i64) (by omega), congrArg (Value.int .i64) (by omega), congrArg (Value.int .i64) (by unfold addM; split <;> omega), HV.out.step hN0 (by unfold addM; split <;> omega)⟩, by simp only [intOf]; omega⟩
        | exact ⟨⟨True.intro, A * 2, 0, 1099511627776, congrArg (Value.int .i64) (by omega), rfl, rfl, HV.out.stop hN0 (by unfold addM; split <;> omega)⟩, by simp only [intOf]; omega⟩

theorem times_10 (x n : Int) (w : World) (hx : -1099511627776 ≤ x ∧ x ≤ 1099511627776) (hx0 : x < 0) (hn0 : 0 ≤ n) (hn : -2147483648 ≤ n ∧ n ≤ 2147483648) :
    Calls Try.prog 9 #[.int .i64 x, .int .i64 n] w fun r w' => r = .returned (.int .i64 (capF (x * n))) ∧ w' = w := by
  have HE : Hid (capF (x * n) = -(topF (x.natAbs * n.natAbs) : Int)) := by
    show _ = _
    have hx' := hx0
    have hn' := hn0
    rw [cap_top, (decide_eq_true hx0), (decide_eq_false (Int.not_lt.2 hn0))]
    rfl
  have hdx : decide (x < 0) = true := (decide_eq_true hx0)
  have hdn : decide (n < 0) = false := (decide_eq_false (Int.not_lt.2 hn0))
  have hwx : IntKind.i64.wrap (-x) = -x := IntWalk.i64_in _ (by omega)
  have hwn : IntKind.i64.wrap (-n) = -n := IntWalk.i64_in _ (by omega)
  have e1 : Value.int .i64 (-x) = Value.int .i64 (x.natAbs : Int) := congrArg (Value.int .i64) (by omega)
  have e2 : Value.int .i64 (n) = Value.int .i64 (n.natAbs : Int) := congrArg (Value.int .i64) (by omega)
  obtain ⟨K, hK⟩ : ∃ K, x.natAbs * n.natAbs = K := ⟨_, rfl⟩
  rw [hK] at HE
  have HU : Hid (UnderM K x.natAbs n.natAbs 0) := ⟨by omega, .inl ⟨by omega, by omega, by omega⟩⟩
  have HS : Hid (Value.int .i64 (-x) = Value.int .i64 (x.natAbs : Int) ∧ Value.int .i64 (n) = Value.int .i64 (n.natAbs : Int)) := ⟨e1, e2⟩
  clear hK e1 e2 hx hn
  go_enter Try.func9, Try.ntmps9
  go_wp2_with fail
  clear hx0 hn0 hdx hdn
  go_loopw [0, 1, 6] (fun av nv pv wr => wr = w ∧ ∃ A N P : Nat, av = .int .i64 A ∧ nv = .int .i64 N ∧ pv = .int .i64 P ∧ UnderM K A N P) (fun _ nv _ _ => (intOf nv).toNat)
  case atStart => exact ⟨rfl, x.natAbs, n.natAbs, 0, HS.out.1, HS.out.2, rfl, HU.out⟩
  case round =>
    obtain ⟨rfl, A, N, P, rfl, rfl, rfl, hu⟩ := hrel
    have HV : Hid (UnderM K A N P) := hu
    obtain ⟨hA, hP⟩ := hu.big
    have hN := hu.1
    clear hu HU
    by_cases h0 : N = 0
    · subst h0
      have HD : Hid (P = topF K) := HV.out.done
      have hwp : IntKind.i64.wrap (-(P : Int)) = -(P : Int) := IntWalk.i64_in _ (by omega)
      go_wp2
      go_ret
      exact ⟨by rw [HE.out, ← HD.out]; rfl, rfl⟩
    · have hN0 : 0 < N := by omega
      have hgt : decide ((0 : Int) < (N : Int)) = true := decide_eq_true (by omega)
      have hw1 : IntKind.i64.wrap ((P : Int) + A) = ((P + A : Nat) : Int) := (IntWalk.i64_in _ (by omega)).trans (by omega)
      have hw2 : IntKind.i64.wrap ((A : Int) * 2) = ((A * 2 : Nat) : Int) := (IntWalk.i64_in _ (by omega)).trans (by omega)
      have hw3 : wrap64 ((N : Int) / 2) = ((N / 2 : Nat) : Int) := by unfold wrap64; omega
      go_wp2
      all_goals simp only [beq_iff_eq, beq_eq_false_iff_ne, ne_eq] at *
      all_goals first
        | exact ⟨⟨True.intro, A * 2, N / 2, addM A N P, congrArg (Value.int .i64) (by omega), congrArg (Value.int .i64) (by omega), congrArg (Value.int .i64) (by unfold addM; split <;> omega), HV.out.step hN0 (by unfold addM; split <;> omega)⟩, by simp only [intOf]; omega⟩
        | exact ⟨⟨True.intro, A * 2, 0, 1099511627776, congrArg (Value.int .i64) (by omega), rfl, rfl, HV.out.stop hN0 (by unfold addM; split <;> omega)⟩, by simp only [intOf]; omega⟩

theorem times_01 (x n : Int) (w : World) (hx : -1099511627776 ≤ x ∧ x ≤ 1099511627776) (hx0 : 0 ≤ x) (hn0 : n < 0) (hn : -2147483648 ≤ n ∧ n ≤ 2147483648) :
    Calls Try.prog 9 #[.int .i64 x, .int .i64 n] w fun r w' => r = .returned (.int .i64 (capF (x * n))) ∧ w' = w := by
  have HE : Hid (capF (x * n) = -(topF (x.natAbs * n.natAbs) : Int)) := by
    show _ = _
    have hx' := hx0
    have hn' := hn0
    rw [cap_top, (decide_eq_false (Int.not_lt.2 hx0)), (decide_eq_true hn0)]
    rfl
  have hdx : decide (x < 0) = false := (decide_eq_false (Int.not_lt.2 hx0))
  have hdn : decide (n < 0) = true := (decide_eq_true hn0)
  have hwx : IntKind.i64.wrap (-x) = -x := IntWalk.i64_in _ (by omega)
  have hwn : IntKind.i64.wrap (-n) = -n := IntWalk.i64_in _ (by omega)
  have e1 : Value.int .i64 (x) = Value.int .i64 (x.natAbs : Int) := congrArg (Value.int .i64) (by omega)
  have e2 : Value.int .i64 (-n) = Value.int .i64 (n.natAbs : Int) := congrArg (Value.int .i64) (by omega)
  obtain ⟨K, hK⟩ : ∃ K, x.natAbs * n.natAbs = K := ⟨_, rfl⟩
  rw [hK] at HE
  have HU : Hid (UnderM K x.natAbs n.natAbs 0) := ⟨by omega, .inl ⟨by omega, by omega, by omega⟩⟩
  have HS : Hid (Value.int .i64 (x) = Value.int .i64 (x.natAbs : Int) ∧ Value.int .i64 (-n) = Value.int .i64 (n.natAbs : Int)) := ⟨e1, e2⟩
  clear hK e1 e2 hx hn
  go_enter Try.func9, Try.ntmps9
  go_wp2_with fail
  clear hx0 hn0 hdx hdn
  go_loopw [0, 1, 6] (fun av nv pv wr => wr = w ∧ ∃ A N P : Nat, av = .int .i64 A ∧ nv = .int .i64 N ∧ pv = .int .i64 P ∧ UnderM K A N P) (fun _ nv _ _ => (intOf nv).toNat)
  case atStart => exact ⟨rfl, x.natAbs, n.natAbs, 0, HS.out.1, HS.out.2, rfl, HU.out⟩
  case round =>
    obtain ⟨rfl, A, N, P, rfl, rfl, rfl, hu⟩ := hrel
    have HV : Hid (UnderM K A N P) := hu
    obtain ⟨hA, hP⟩ := hu.big
    have hN := hu.1
    clear hu HU
    by_cases h0 : N = 0
    · subst h0
      have HD : Hid (P = topF K) := HV.out.done
      have hwp : IntKind.i64.wrap (-(P : Int)) = -(P : Int) := IntWalk.i64_in _ (by omega)
      go_wp2
      go_ret
      exact ⟨by rw [HE.out, ← HD.out]; rfl, rfl⟩
    · have hN0 : 0 < N := by omega
      have hgt : decide ((0 : Int) < (N : Int)) = true := decide_eq_true (by omega)
      have hw1 : IntKind.i64.wrap ((P : Int) + A) = ((P + A : Nat) : Int) := (IntWalk.i64_in _ (by omega)).trans (by omega)
      have hw2 : IntKind.i64.wrap ((A : Int) * 2) = ((A * 2 : Nat) : Int) := (IntWalk.i64_in _ (by omega)).trans (by omega)
      have hw3 : wrap64 ((N : Int) / 2) = ((N / 2 : Nat) : Int) := by unfold wrap64; omega
      go_wp2
      all_goals simp only [beq_iff_eq, beq_eq_false_iff_ne, ne_eq] at *
      all_goals first
        | exact ⟨⟨True.intro, A * 2, N / 2, addM A N P, congrArg (Value.int .i64) (by omega), congrArg (Value.int .i64) (by omega), congrArg (Value.int .i64) (by unfold addM; split <;> omega), HV.out.step hN0 (by unfold addM; split <;> omega)⟩, by simp only [intOf]; omega⟩
        | exact ⟨⟨True.intro, A * 2, 0, 1099511627776, congrArg (Value.int .i64) (by omega), rfl, rfl, HV.out.stop hN0 (by unfold addM; split <;> omega)⟩, by simp only [intOf]; omega⟩

theorem times_00 (x n : Int) (w : World) (hx : -1099511627776 ≤ x ∧ x ≤ 1099511627776) (hx0 : 0 ≤ x) (hn0 : 0 ≤ n) (hn : -2147483648 ≤ n ∧ n ≤ 2147483648) :
    Calls Try.prog 9 #[.int .i64 x, .int .i64 n] w fun r w' => r = .returned (.int .i64 (capF (x * n))) ∧ w' = w := by
  have HE : Hid (capF (x * n) = (topF (x.natAbs * n.natAbs) : Int)) := by
    show _ = _
    have hx' := hx0
    have hn' := hn0
    rw [cap_top, (decide_eq_false (Int.not_lt.2 hx0)), (decide_eq_false (Int.not_lt.2 hn0))]
    rfl
  have hdx : decide (x < 0) = false := (decide_eq_false (Int.not_lt.2 hx0))
  have hdn : decide (n < 0) = false := (decide_eq_false (Int.not_lt.2 hn0))
  have hwx : IntKind.i64.wrap (-x) = -x := IntWalk.i64_in _ (by omega)
  have hwn : IntKind.i64.wrap (-n) = -n := IntWalk.i64_in _ (by omega)
  have e1 : Value.int .i64 (x) = Value.int .i64 (x.natAbs : Int) := congrArg (Value.int .i64) (by omega)
  have e2 : Value.int .i64 (n) = Value.int .i64 (n.natAbs : Int) := congrArg (Value.int .i64) (by omega)
  obtain ⟨K, hK⟩ : ∃ K, x.natAbs * n.natAbs = K := ⟨_, rfl⟩
  rw [hK] at HE
  have HU : Hid (UnderM K x.natAbs n.natAbs 0) := ⟨by omega, .inl ⟨by omega, by omega, by omega⟩⟩
  have HS : Hid (Value.int .i64 (x) = Value.int .i64 (x.natAbs : Int) ∧ Value.int .i64 (n) = Value.int .i64 (n.natAbs : Int)) := ⟨e1, e2⟩
  clear hK e1 e2 hx hn
  go_enter Try.func9, Try.ntmps9
  go_wp2_with fail
  clear hx0 hn0 hdx hdn
  go_loopw [0, 1, 6] (fun av nv pv wr => wr = w ∧ ∃ A N P : Nat, av = .int .i64 A ∧ nv = .int .i64 N ∧ pv = .int .i64 P ∧ UnderM K A N P) (fun _ nv _ _ => (intOf nv).toNat)
  case atStart => exact ⟨rfl, x.natAbs, n.natAbs, 0, HS.out.1, HS.out.2, rfl, HU.out⟩
  case round =>
    obtain ⟨rfl, A, N, P, rfl, rfl, rfl, hu⟩ := hrel
    have HV : Hid (UnderM K A N P) := hu
    obtain ⟨hA, hP⟩ := hu.big
    have hN := hu.1
    clear hu HU
    by_cases h0 : N = 0
    · subst h0
      have HD : Hid (P = topF K) := HV.out.done
      have hwp : IntKind.i64.wrap (-(P : Int)) = -(P : Int) := IntWalk.i64_in _ (by omega)
      go_wp2
      go_ret
      exact ⟨by rw [HE.out, ← HD.out]; rfl, rfl⟩
    · have hN0 : 0 < N := by omega
      have hgt : decide ((0 : Int) < (N : Int)) = true := decide_eq_true (by omega)
      have hw1 : IntKind.i64.wrap ((P : Int) + A) = ((P + A : Nat) : Int) := (IntWalk.i64_in _ (by omega)).trans (by omega)
      have hw2 : IntKind.i64.wrap ((A : Int) * 2) = ((A * 2 : Nat) : Int) := (IntWalk.i64_in _ (by omega)).trans (by omega)
      have hw3 : wrap64 ((N : Int) / 2) = ((N / 2 : Nat) : Int) := by unfold wrap64; omega
      go_wp2
      all_goals simp only [beq_iff_eq, beq_eq_false_iff_ne, ne_eq] at *
      all_goals first
        | exact ⟨⟨True.intro, A * 2, N / 2, addM A N P, congrArg (Value.int .i64) (by omega), congrArg (Value.int .i64) (by omega), congrArg (Value.int .i64) (by unfold addM; split <;> omega), HV.out.step hN0 (by unfold addM; split <;> omega)⟩, by simp only [intOf]; omega⟩
        | exact ⟨⟨True.intro, A * 2, 0, 1099511627776, congrArg (Value.int .i64) (by omega), rfl, rfl, HV.out.stop hN0 (by unfold addM; split <;> omega)⟩, by simp only [intOf]; omega⟩

theorem times_any (x n : Int) (w : World) (hx : -1099511627776 ≤ x ∧ x ≤ 1099511627776) (hn : -2147483648 ≤ n ∧ n ≤ 2147483648) :
    Calls Try.prog 9 #[.int .i64 x, .int .i64 n] w fun r w' => r = .returned (.int .i64 (capF (x * n))) ∧ w' = w := by
  rcases lt_or_le x 0 with hx0 | hx0 <;> rcases lt_or_le n 0 with hn0 | hn0
  · exact times_11 x n w hx hx0 hn0 hn
  · exact times_10 x n w hx hx0 hn0 hn
  · exact times_01 x n w hx hx0 hn0 hn
  · exact times_00 x n w hx hx0 hn0 hn

end Go.Proofs.Ytgfbcekmnpdoeab.Sn
