/-
  Plain mathematics for layer 3 (mark): the sum of bytes by a register, bit by bit and by four bits at once; that it tells four changed bytes in a row. No condition. Nothing of the program.
-/
import Derived.Laws.BitsAllLaws
import Derived.Laws.BitsLemmas
import Derived.RowKit
import Derived.Laws.Strings
namespace Go.Proofs.YtkfphmhnaelflacGreatDoor.Mk
open Go.RowKit

/-- The register, shifted by one bit. -/
def stepB (r : Nat) : Nat := r / 2 ^^^ (if r % 2 = 1 then 2197175160 else 0)

def stepN : Nat → Nat → Nat
  | 0, r => r
  | k + 1, r => stepN k (stepB r)

theorem stepN_add (j k r : Nat) : stepN (j + k) r = stepN k (stepN j r) := by
  induction j generalizing r with
  | zero => rw [Nat.zero_add]; rfl
  | succ j ih => rw [Nat.succ_add]; exact ih _

theorem stepN_succ (k r : Nat) : stepN (k + 1) r = stepB (stepN k r) := by rw [stepN_add]; rfl

theorem xor_div2 (a b : Nat) : (a ^^^ b) / 2 = a / 2 ^^^ b / 2 := by
  apply Nat.eq_of_testBit_eq; intro i
  simp [Nat.testBit_div_two, Nat.testBit_xor]

theorem xor_mod2 (a b : Nat) : (a ^^^ b) % 2 = (a + b) % 2 := by
  have h := Nat.xor_mod_two_eq_one (a := a) (b := b)
  have hx : (a ^^^ b) % 2 = 0 ∨ (a ^^^ b) % 2 = 1 := by omega
  by_cases ha : a % 2 = 1 <;> by_cases hb : b % 2 = 1 <;> simp only [ha, hb, iff_true, iff_false, not_true_eq_false, not_false_eq_true] at h <;> omega

theorem xor_nil {a b : Nat} (h : a ^^^ b = 0) : a = b := by
  have e : a ^^^ b ^^^ b = b := by rw [h, Nat.zero_xor]
  rw [Nat.xor_assoc, Nat.xor_self, Nat.xor_zero] at e
  exact e

theorem xor_right_comm (a b c : Nat) : a ^^^ b ^^^ c = a ^^^ c ^^^ b := by
  rw [Nat.xor_assoc, Nat.xor_comm b c, ← Nat.xor_assoc]

theorem stepB_xor (a b : Nat) : stepB (a ^^^ b) = stepB a ^^^ stepB b := by
  have hm := xor_mod2 a b
  unfold stepB
  rw [xor_div2]
  have ha : a % 2 = 0 ∨ a % 2 = 1 := by omega
  have hb : b % 2 = 0 ∨ b % 2 = 1 := by omega
  rcases ha with ha | ha <;> rcases hb with hb | hb
  · rw [if_neg (by omega), if_neg (by omega), if_neg (by omega)]; simp
  · rw [if_pos (by omega), if_neg (by omega), if_pos (by omega), Nat.xor_zero, Nat.xor_assoc]
  · rw [if_pos (by omega), if_pos (by omega), if_neg (by omega), Nat.xor_zero, xor_right_comm]
  · rw [if_neg (by omega), if_pos (by omega), if_pos (by omega), Nat.xor_zero, Nat.xor_assoc, Nat.xor_comm 2197175160, Nat.xor_assoc, Nat.xor_self, Nat.xor_zero]

theorem stepB_zero : stepB 0 = 0 := by decide

theorem stepN_zero (k : Nat) : stepN k 0 = 0 := by
  induction k with
  | zero => rfl
  | succ k ih => show stepN k (stepB 0) = 0; rw [stepB_zero]; exact ih

theorem stepN_xor (k a b : Nat) : stepN k (a ^^^ b) = stepN k a ^^^ stepN k b := by
  induction k generalizing a b with
  | zero => rfl
  | succ k ih => show stepN k (stepB _) = _; rw [stepB_xor]; exact ih _ _

theorem stepB_lt (r : Nat) (h : r < 4294967296) : stepB r < 4294967296 := by
  unfold stepB
  refine Nat.xor_lt_two_pow (n := 32) (by omega) ?_
  split <;> omega

theorem stepN_lt (k r : Nat) (h : r < 4294967296) : stepN k r < 4294967296 := by
  induction k generalizing r with
  | zero => exact h
  | succ k ih => exact ih _ (stepB_lt r h)

theorem stepB_nil (r : Nat) (h : r < 4294967296) (e : stepB r = 0) : r = 0 := by
  unfold stepB at e
  by_cases hr : r % 2 = 1
  · rw [if_pos hr] at e
    have := xor_nil e
    omega
  · rw [if_neg hr, Nat.xor_zero] at e
    omega

theorem stepN_nil (k r : Nat) (h : r < 4294967296) (e : stepN k r = 0) : r = 0 := by
  induction k generalizing r with
  | zero => exact e
  | succ k ih => exact stepB_nil r h (ih _ (stepB_lt r h) e)

/-- A register whose lowest bits are 0: it is shifted alone. -/
theorem stepN_even (k q : Nat) : stepN k (2 ^ k * q) = q := by
  induction k generalizing q with
  | zero => show 1 * q = q; omega
  | succ k ih =>
    show stepN k (stepB _) = q
    have e : stepB (2 ^ (k + 1) * q) = 2 ^ k * q := by
      unfold stepB
      have : 2 ^ (k + 1) * q = 2 * (2 ^ k * q) := by rw [Nat.pow_succ, Nat.mul_comm (2 ^ k) 2, Nat.mul_assoc]
      rw [this, if_neg (by omega), Nat.xor_zero]; omega
    rw [e]; exact ih q

/-- The table of four steps. -/
def tabL : List Nat := [0, 274646895, 549293790, 820201905, 1098587580, 1361435347, 1640403810, 1905808397, 2197175160, 2460548119, 2722870694, 2987750089, 3280807620, 3553878443, 3811616794, 4084100981]
def tabN (i : Nat) : Nat := tabL.getD i 0

theorem tab_step : ∀ i : Fin 16, stepN 4 i.1 = tabN i.1 := by decide +kernel

theorem split16 (k r : Nat) : r = 2 ^ k * (r / 2 ^ k) ^^^ r % 2 ^ k := by
  conv => lhs; rw [← Nat.div_add_mod r (2 ^ k)]
  rw [Nat.two_pow_add_eq_or_of_lt (Nat.mod_lt _ (Nat.two_pow_pos k))]
  apply Nat.eq_of_testBit_eq; intro i
  rw [Nat.testBit_or, Nat.testBit_xor, Nat.testBit_two_pow_mul, Nat.testBit_mod_two_pow]
  by_cases h : k ≤ i
  · simp [h, Nat.not_lt.2 h]
  · simp [h]

/-- Four steps at once. -/
theorem step4 (r : Nat) : stepN 4 r = r / 16 ^^^ tabN (r % 16) := by
  conv => lhs; rw [split16 4 r, stepN_xor, stepN_even]
  rw [tab_step ⟨r % 2 ^ 4, Nat.mod_lt _ (by decide)⟩]

/-- One byte. -/
def crcB (r c : Nat) : Nat := stepN 8 (r ^^^ c)

theorem crcB_tab (r c : Nat) : crcB r c = (stepN 4 (r ^^^ c)) / 16 ^^^ tabN ((stepN 4 (r ^^^ c)) % 16) := by
  unfold crcB
  rw [show (8 : Nat) = 4 + 4 from rfl, stepN_add, step4 (stepN 4 _)]

theorem crcB_lt (r c : Nat) (h : r < 4294967296) (hc : c < 256) : crcB r c < 4294967296 :=
  stepN_lt _ _ (Nat.xor_lt_two_pow (n := 32) (by omega) (by omega))

/-- Bytes, one after the other. -/
def crcL (l : List UInt8) (r : Nat) : Nat := l.foldl (fun r c => crcB r c.toNat) r

theorem crcL_nil (r : Nat) : crcL [] r = r := rfl
theorem crcL_cons (c : UInt8) (l : List UInt8) (r : Nat) : crcL (c :: l) r = crcL l (crcB r c.toNat) := rfl
theorem crcL_append (a b : List UInt8) (r : Nat) : crcL (a ++ b) r = crcL b (crcL a r) := List.foldl_append ..
theorem crcL_snoc (a : List UInt8) (c : UInt8) (r : Nat) : crcL (a ++ [c]) r = crcB (crcL a r) c.toNat := by rw [crcL_append]; rfl
theorem crcL_lt (l : List UInt8) (r : Nat) (h : r < 4294967296) : crcL l r < 4294967296 := by
  induction l generalizing r with
  | nil => exact h
  | cons c l ih => exact ih _ (crcB_lt r _ h c.toNat_lt)

/-- The sum of bytes. -/
def sumN (l : List UInt8) : Nat := 4294967295 - crcL l 4294967295
theorem sumN_lt (l : List UInt8) : sumN l < 4294967296 := by unfold sumN; omega

/-- The document's eight steps: where the register and the byte stand behind b of them. -/
theorem ref_step (r x c b : Nat) (hx : stepN b (r ^^^ c) = x ^^^ c / 2 ^ b) :
    stepN (b + 1) (r ^^^ c) = (x / 2 ^^^ (if (x ^^^ c / 2 ^ b) % 2 = 1 then 2197175160 else 0)) ^^^ c / 2 ^ (b + 1) := by
  rw [stepN_succ, hx]
  unfold stepB
  rw [xor_div2, Nat.div_div_eq_div_mul, ← Nat.pow_succ, xor_right_comm]

theorem zip_xor_cons (a b : UInt8) (l m : List UInt8) : List.zipWith (· ^^^ ·) (a :: l) (b :: m) = (a ^^^ b) :: List.zipWith (· ^^^ ·) l m := rfl

/-- The registers of two texts of one length part by what parts the texts. -/
theorem crcL_xor (l m : List UInt8) (h : l.length = m.length) (r q : Nat) : crcL (List.zipWith (· ^^^ ·) l m) (r ^^^ q) = crcL l r ^^^ crcL m q := by
  induction l generalizing m r q with
  | nil =>
    obtain rfl : m = [] := List.eq_nil_of_length_eq_zero h.symm
    rfl
  | cons c l ih =>
    match m, h with
    | d :: m, h =>
      rw [zip_xor_cons, crcL_cons, crcL_cons, crcL_cons, ← ih m (by simpa using h)]
      congr 1
      unfold crcB
      rw [← stepN_xor, UInt8.toNat_xor]
      congr 1
      rw [Nat.xor_assoc, Nat.xor_assoc]; congr 1
      rw [← Nat.xor_assoc, Nat.xor_comm q, Nat.xor_assoc]

theorem crcL_zeros (k d : Nat) : crcL (List.replicate k 0) d = stepN (8 * k) d := by
  induction k generalizing d with
  | zero => rfl
  | succ k ih =>
    rw [List.replicate_succ, crcL_cons, ih, show 8 * (k + 1) = 8 + 8 * k by omega, stepN_add]
    unfold crcB; simp

/-- The number of bytes, the lowest first. -/
def leN : List UInt8 → Nat
  | [] => 0
  | c :: r => c.toNat ^^^ 256 * leN r

theorem leN_zero (l : List UInt8) (h : leN l = 0) : ∀ c ∈ l, c = 0 := by
  induction l with
  | nil => intro c hc; cases hc
  | cons a r ih =>
    have e := xor_nil h
    have := a.toNat_lt
    have e0 : a.toNat = 0 := by omega
    intro c hc
    rcases List.mem_cons.1 hc with rfl | hc
    · exact UInt8.toNat_inj.1 e0
    · exact ih (by omega) c hc

/-- A register that bytes are put to: as if the number of them were put to it at once. -/
theorem crcL_leN (l : List UInt8) (d : Nat) : crcL l d = stepN (8 * l.length) (d ^^^ leN l) := by
  induction l generalizing d with
  | nil => simp [crcL_nil, leN, stepN]
  | cons c l ih =>
    rw [crcL_cons, ih]
    show _ = stepN (8 * (l.length + 1)) _
    rw [show 8 * (l.length + 1) = 8 + 8 * l.length by omega, stepN_add]
    congr 1
    show stepN 8 _ ^^^ _ = _
    show _ = stepN 8 (d ^^^ (c.toNat ^^^ 256 * leN l))
    rw [← Nat.xor_assoc, stepN_xor 8 (d ^^^ c.toNat), show 256 * leN l = 2 ^ 8 * leN l from rfl, stepN_even]

theorem leN_lt (l : List UInt8) : leN l < 2 ^ (8 * l.length) := by
  induction l with
  | nil => simp [leN]
  | cons c l ih =>
    show c.toNat ^^^ 256 * leN l < 2 ^ (8 * (l.length + 1))
    have := c.toNat_lt
    have e : 2 ^ (8 * (l.length + 1)) = 256 * 2 ^ (8 * l.length) := by
      rw [show 8 * (l.length + 1) = 8 * l.length + 8 by omega, Nat.pow_add]; omega
    have p : 0 < 2 ^ (8 * l.length) := Nat.two_pow_pos _
    exact Nat.xor_lt_two_pow (by omega) (by omega)

/-- Four bytes in a row at most, all else 0: the register stays 0 only of bytes that are 0. -/
theorem burst (p q : Nat) (x : List UInt8) (hx : x.length ≤ 4) (h : crcL (List.replicate p 0 ++ x ++ List.replicate q 0) 0 = 0) : ∀ c ∈ x, c = 0 := by
  rw [crcL_append, crcL_append, crcL_zeros, crcL_zeros, stepN_zero, crcL_leN] at h
  have hl : leN x < 4294967296 := Nat.lt_of_lt_of_le (leN_lt x) (Nat.pow_le_pow_right (j := 32) (by decide) (by omega))
  have hn := stepN_nil _ _ (stepN_lt _ _ (by simpa using hl)) h
  have hn2 := stepN_nil _ _ (by simpa using hl) hn
  rw [Nat.zero_xor] at hn2
  exact leN_zero x hn2

end Go.Proofs.YtkfphmhnaelflacGreatDoor.Mk
