/-
  Numbers of a set taken, and given back. No condition.
-/
import Derived.Test.YtkflhakgfpiiaaaDoorBtS
namespace Go.Proofs.YtkflhakgfpiiaaaDoor.Bt
open Go.ChangeShapes Go.WideShapes Go.ChangeAt Go.RowKit

/-- An error by its number; 0: none. -/
def errV (n : Int) : Value := if n = 0 then .nilIface else .iface 57 (.int .i64 n)
/-- Numbers from one on the other way. -/
def flipsB (B : Nat → Nat) (i : Nat) : Nat → Nat → Nat
  | 0 => B
  | m + 1 => flipB (flipsB B i m) (i + m)
theorem tk_flips (B : Nat → Nat) (i m j : Nat) : tk (flipsB B i m) j = if i ≤ j ∧ j < i + m then !tk B j else tk B j := by
  induction m generalizing j with
  | zero => rw [if_neg (by omega)]; rfl
  | succ m ih =>
    unfold flipsB
    rw [tk_flip]
    by_cases h : j = i + m
    · subst h; rw [if_pos rfl, ih, if_neg (by omega), if_pos (by omega)]
    · rw [if_neg h, ih]
      by_cases h2 : i ≤ j ∧ j < i + m
      · rw [if_pos h2, if_pos (by omega)]
      · rw [if_neg h2, if_neg (by omega)]
theorem flips_lt {B : Nat → Nat} (h : ∀ j, B j < 256) (i m j : Nat) : flipsB B i m j < 256 := by
  induction m generalizing j with
  | zero => exact h j
  | succ m ih => exact flip_lt ih _ _

/-- From w to w' block b alone was turned, and new ones laid. -/
structure Upd (b : Nat) (w w' : World) : Prop where
  os : w'.os = w.os
  tape : w'.tape = w.tape
  output : w'.output = w.output
  size : w.heap.size ≤ w'.heap.size
  block : ∀ k, k < w.heap.size → k ≠ b → w'.heap[k]? = w.heap[k]?
theorem Upd.refl (b : Nat) (w : World) : Upd b w w := ⟨rfl, rfl, rfl, Nat.le_refl _, fun _ _ _ => rfl⟩
theorem Upd.of_below {b : Nat} {w w' : World} (h : Below w.heap.size w w') : Upd b w w' := ⟨h.os, h.tape, h.output, h.size, fun k hk _ => h.block k hk⟩
theorem Upd.trans {b : Nat} {w w' w'' : World} (h : Upd b w w') (k : Upd b w' w'') : Upd b w w'' :=
  ⟨k.os.trans h.os, k.tape.trans h.tape, k.output.trans h.output, Nat.le_trans h.size k.size, fun i hi hn => (k.block i (Nat.lt_of_lt_of_le hi h.size) hn).trans (h.block i hi hn)⟩
theorem Upd.below {b C : Nat} {w w' : World} (h : Upd b w w') (hC : C ≤ b) (hw : C ≤ w.heap.size) : Below C w w' := ⟨h.os, h.tape, h.output, h.size, fun k hk => h.block k (by omega) (by omega)⟩
theorem Upd.setCell {b : Nat} (w : World) (i : Nat) (v : Value) : Upd b w (w.setCell ⟨b, i, none⟩ v) := ⟨rfl, rfl, rfl, by simp, fun k _ hn => heap_setCell_other w ⟨b, i, none⟩ k _ hn⟩
theorem Upd.drew {b : Nat} {w w' : World} (h : Upd b w w') : Upd b w w'.drew := ⟨h.os, h.tape, h.output, h.size, h.block⟩
theorem SetAt.upd {w w' : World} {b b' n : Nat} {B : Nat → Nat} (h : SetAt w b' n B) (hu : Upd b w w') (hn : b' ≠ b) : SetAt w' b' n B := by
  obtain ⟨c, hc, hs⟩ := h
  exact ⟨c, (hu.block b' (lt_of_heap hc) hn).trans hc, hs⟩

theorem SetAt.flip {w : World} {b n i : Nat} {B : Nat → Nat} (h : SetAt w b n B) (hi : i < 4000) : SetAt (w.setCell ⟨b, 1 + i / 8, none⟩ (.int .u8 ((B (i / 8) ^^^ 2 ^ (i % 8) : Nat) : Int))) b n (flipB B i) := by
  obtain ⟨c, hc, hs⟩ := h
  refine ⟨_, heap_setCell_same w b (1 + i / 8) _ _ _ hc, ?_, ?_, ?_, flip_lt hs.small i, hs.max⟩
  · simp [hs.size]
  · rw [Array.getElem?_setIfInBounds_ne (by omega)]; exact hs.bound
  · intro j hj
    unfold flipB
    by_cases e : j = i / 8
    · subst e
      rw [if_pos rfl, Array.getElem?_setIfInBounds_self_of_lt (by rw [hs.size]; omega)]
    · rw [if_neg e, Array.getElem?_setIfInBounds_ne (by omega)]; exact hs.byte j hj

set_option maxRecDepth 100000
set_option maxHeartbeats 1000000

/-- Is it a run of one number or more below the bound? -/
def insideF (n : Nat) (i m : Int) : Bool := decide (0 ≤ i) && decide (1 ≤ m) && decide (m ≤ n - i)
theorem inside_any (v : Value) (n : Nat) (B : Nat → Nat) (i m : Int) (w : World) (h : SetV w v n B) (hi : i ≤ 9223372036854775807) : Calls Tryd.prog 42 #[v, .int .i64 i, .int .i64 m] w fun r w' => r = .returned (.bool (insideF n i m)) ∧ w' = w := by
  have hend := end_any v n B w h
  have hmx := h.max
  have hv : v = .pointer none ∨ ∃ b, v = .pointer (some ⟨b, 0, none⟩) := by
    rcases h with ⟨rfl, _⟩ | ⟨b, rfl, _⟩
    · exact .inl rfl
    · exact .inr ⟨b, rfl⟩
  clear h
  have HI : Hid (insideF n i m = (decide (0 ≤ i) && decide (1 ≤ m) && decide (m ≤ n - i))) := rfl
  by_cases h0 : 0 ≤ i
  · by_cases h1 : 1 ≤ m
    · rcases hv with rfl | ⟨b, rfl⟩
      all_goals
        go_enter Tryd.func42, Tryd.ntmps42
        go_wp2_with fail
        refine hend.mono ?_
        rintro r w1 ⟨rfl, rfl⟩
        clear hend
        go_wp2
        go_ret
        exact ⟨by rw [HI.out, decide_eq_true h0, decide_eq_true h1]; rfl, rfl⟩
    · rcases hv with rfl | ⟨b, rfl⟩
      all_goals
        go_enter Tryd.func42, Tryd.ntmps42
        go_wp2
        go_ret
        exact ⟨by rw [HI.out, decide_eq_false (by omega : ¬ 1 ≤ m), Bool.and_false, Bool.false_and]; rfl, rfl⟩
  · rcases hv with rfl | ⟨b, rfl⟩
    all_goals
      go_enter Tryd.func42, Tryd.ntmps42
      go_wp2
      go_ret
      exact ⟨by rw [HI.out, decide_eq_false (by omega : ¬ 0 ≤ i), Bool.false_and, Bool.false_and]; rfl, rfl⟩

theorem every_any (b n : Nat) (B : Nat → Nat) (i m : Nat) (t : Bool) (w : World) (h : SetAt w b n B) (him : i + m ≤ n) :
    Calls Tryd.prog 43 #[.pointer (some ⟨b, 0, none⟩), .int .i64 i, .int .i64 m, .bool t] w fun r w' => r = .returned (.bool (decide (∀ x, x < m → tk B (i + x) = t))) ∧ Below w.heap.size w w' := by
  have hmx : n ≤ 4000 := by obtain ⟨c, _, hs⟩ := h; exact hs.max
  have HS : Hid (SetAt w b n B) := h
  clear h
  go_enter Tryd.func43, Tryd.ntmps43
  go_wp2
  go_loopw [11] (fun j wr => ∃ k : Nat, k ≤ m ∧ j = .int .i64 k ∧ (∀ x, x < k → tk B (i + x) = t) ∧ Below w.heap.size w wr) (fun j _ => m - (intOf j).toNat)
  case atStart => exact ⟨0, Nat.zero_le _, rfl, fun x h => absurd h (Nat.not_lt_zero _), Below.refl _ _⟩
  case round =>
    obtain ⟨k, hk, rfl, hall, hb⟩ := hrel
    have HA : Hid (∀ x, x < k → tk B (i + x) = t) := hall
    have HB : Hid (Below w.heap.size w wr) := hb
    clear hall hb
    by_cases hlt : k < m
    · have hH := has_any (.pointer (some ⟨b, 0, none⟩)) n B (((i : Nat) : Int) + ((k : Nat) : Int)) wr (.inr ⟨b, rfl, HS.out.below HB.out (Nat.le_refl _)⟩) (by omega)
      have e1 : (decide (0 ≤ ((i : Nat) : Int) + ((k : Nat) : Int)) && decide (((i : Nat) : Int) + ((k : Nat) : Int) < n) && tk B (((i : Nat) : Int) + ((k : Nat) : Int)).toNat) = tk B (i + k) := by
        rw [decide_eq_true (by omega), decide_eq_true (by omega), show (((i : Nat) : Int) + ((k : Nat) : Int)).toNat = i + k by omega]; rfl
      rw [e1] at hH
      clear e1
      go_wp2_with fail
      refine hH.mono ?_
      rintro r w1 ⟨rfl, hb1⟩
      have HB1 : Hid (Below w.heap.size w w1) := HB.out.trans (hb1.mono HB.out.size)
      clear hH hb1
      by_cases hs : tk B (i + k) = t
      · have hne : (tk B (i + k) == t) = true := by rw [hs]; simp
        have HN : Hid (∀ x, x < k + 1 → tk B (i + x) = t) := by
          intro x hx
          by_cases hxk : x < k
          · exact HA.out x hxk
          · rw [show x = k by omega]; exact hs
        clear hs
        go_wp2
        go_roundw
        case rel => exact ⟨k + 1, by omega, by go_num, HN.out, HB1.out⟩
        case measure => simp [intOf]; omega
      · have hne : (tk B (i + k) == t) = false := by simpa using hs
        have HF : Hid (decide (∀ x, x < m → tk B (i + x) = t) = false) := decide_eq_false (fun h => hs (h k hlt))
        clear hs
        go_wp2
        go_ret
        exact ⟨by rw [HF.out]; rfl, HB1.out⟩
    · obtain rfl : k = m := by omega
      have HF : Hid (decide (∀ x, x < k → tk B (i + x) = t) = true) := decide_eq_true HA.out
      go_wp2
      go_ret
      exact ⟨by rw [HF.out]; rfl, HB.out⟩

/-- What turning answers: the error's number, with one of the caller's. -/
def turnE (n : Nat) (B : Nat → Nat) (i m : Int) (t : Bool) (o : Int) : Int := if insideF n i m = true then (if ∀ x, x < m.toNat → tk B (i.toNat + x) = t then 0 else o) else 1

theorem turn_any (v : Value) (n : Nat) (B : Nat → Nat) (i m : Int) (t : Bool) (o : Int) (ho : o ≠ 0) (w : World) (h : SetV w v n B) (hi : i ≤ 9223372036854775807) :
    Calls Tryd.prog 29 #[v, .int .i64 i, .int .i64 m, .bool t, .iface 57 (.int .i64 o)] w fun r w' => r = .returned (errV (turnE n B i m t o)) ∧
      (turnE n B i m t o ≠ 0 → Below w.heap.size w w') ∧ (turnE n B i m t o = 0 → ∃ b, v = .pointer (some ⟨b, 0, none⟩) ∧ SetAt w' b n (flipsB B i.toNat m.toNat) ∧ Upd b w w') := by
  have hin := inside_any v n B i m w h hi
  have hmx := h.max
  cases hI : insideF n i m
  · have HT : Hid (turnE n B i m t o = 1) := by show _ = _; unfold turnE; rw [hI]; rfl
    have hv : v = .pointer none ∨ ∃ b, v = .pointer (some ⟨b, 0, none⟩) := by
      rcases h with ⟨rfl, _⟩ | ⟨b, rfl, _⟩
      · exact .inl rfl
      · exact .inr ⟨b, rfl⟩
    rw [hI] at hin
    clear h
    rcases hv with rfl | ⟨b, rfl⟩
    all_goals
      go_enter Tryd.func29, Tryd.ntmps29
      go_wp2_with fail
      refine hin.mono ?_
      rintro r w1 ⟨rfl, rfl⟩
      clear hin
      go_wp2
      go_ret
      exact ⟨by rw [HT.out]; rfl, fun _ => Below.refl _ _, fun h => by rw [HT.out] at h; cases h⟩
  · have hI' : 0 ≤ i ∧ 1 ≤ m ∧ m ≤ n - i := by
      unfold insideF at hI
      simp only [Bool.and_eq_true, decide_eq_true_eq] at hI
      omega
    obtain ⟨a, rfl⟩ : ∃ a : Nat, i = a := ⟨i.toNat, by omega⟩
    obtain ⟨p, rfl⟩ : ∃ p : Nat, m = p := ⟨m.toNat, by omega⟩
    rcases h with ⟨_, h2⟩ | ⟨b, rfl, hS⟩
    · omega
    · have hev := fun w h => every_any b n B a p t w h (by omega)
      have HS : Hid (SetAt w b n B) := hS
      rw [hI] at hin
      clear hS
      by_cases hall : ∀ x, x < p → tk B (a + x) = t
      · have HT : Hid (turnE n B a p t o = 0) := by show _ = _; unfold turnE; rw [hI, if_pos rfl, if_pos (by simpa using hall)]
        have hd : decide (∀ x, x < p → tk B (a + x) = t) = true := decide_eq_true hall
        rw [hd] at hev
        clear hd hall
        go_enter Tryd.func29, Tryd.ntmps29
        go_wp2_with fail
        refine hin.mono ?_
        rintro r w1 ⟨rfl, rfl⟩
        clear hin
        go_wp2_with fail
        refine (hev _ HS.out).mono ?_
        rintro r w2 ⟨rfl, hb2⟩
        clear hev
        have HB2 : Hid (Below w1.heap.size w1 w2) := hb2
        have HS2 : Hid (SetAt w2 b n B) := HS.out.below hb2 (Nat.le_refl _)
        clear hb2
        go_wp2_with fail
        go_loopw [28] (fun j wr => ∃ k : Nat, k ≤ p ∧ j = .int .i64 k ∧ SetAt wr b n (flipsB B a k) ∧ Upd b w2 wr) (fun j _ => p - (intOf j).toNat)
        case atStart => exact ⟨0, Nat.zero_le _, rfl, HS2.out, Upd.refl _ _⟩
        case round =>
          obtain ⟨k, hk, rfl, hSk, hU⟩ := hrel
          have HSk : Hid (SetAt wr b n (flipsB B a k)) := hSk
          have HU : Hid (Upd b w2 wr) := hU
          clear hSk hU
          by_cases hlt : k < p
          · obtain ⟨c, hc, hs⟩ := HSk.out
            have cb := cell_of_heap hc (1 + (a + k) / 8) _ (hs.byte ((a + k) / 8) (by omega))
            have cf := free_of_heap hc (1 + (a + k) / 8)
            have hxb := xor_bit (flipsB B a k ((a + k) / 8)) ((a + k) % 8) (hs.small _) (by omega)
            have hx8 : (((a + k) / 8 : Nat) : Int) < 504 := by omega
            have hbit := bit_any (a + k) wr (by omega)
            rw [show (((a + k : Nat)) : Int) = (a : Int) + (k : Int) by omega] at hbit
            have HFL : Hid (∀ y : Int, y = ((flipsB B a k ((a + k) / 8) ^^^ 2 ^ ((a + k) % 8) : Nat) : Int) → SetAt (wr.setCell ⟨b, 1 + (a + k) / 8, none⟩ (.int .u8 y)) b n (flipsB B a (k + 1))) := fun y hy => by rw [hy]; exact HSk.out.flip (by omega)
            clear hc hs
            generalize hbb : ((2 ^ ((a + k) % 8) : Nat) : Int) = pb at *
            go_wp2_with fail
            refine hbit.mono ?_
            rintro r w3 ⟨rfl, rfl⟩
            clear hbit
            go_wp2
            go_region
            go_wp2
            go_roundw
            case rel => exact ⟨k + 1, by omega, by go_num, HFL.out _ rfl, (HU.out.trans (Upd.setCell _ _ _)).drew.drew⟩
            case measure => simp [intOf]; omega
          · obtain rfl : k = p := by omega
            go_wp2
            go_ret
            exact ⟨by rw [HT.out]; rfl, fun h => absurd HT.out h, fun _ => ⟨b, rfl, HSk.out, (Upd.of_below HB2.out).trans HU.out⟩⟩
      · have HT : Hid (turnE n B a p t o = o) := by show _ = _; unfold turnE; rw [hI, if_pos rfl, if_neg (by simpa using hall)]
        have hd : decide (∀ x, x < p → tk B (a + x) = t) = false := decide_eq_false hall
        rw [hd] at hev
        clear hd hall
        go_enter Tryd.func29, Tryd.ntmps29
        go_wp2_with fail
        refine hin.mono ?_
        rintro r w1 ⟨rfl, rfl⟩
        clear hin
        go_wp2_with fail
        refine (hev _ HS.out).mono ?_
        rintro r w2 ⟨rfl, hb2⟩
        clear hev
        go_wp2
        go_ret
        exact ⟨by rw [HT.out]; unfold errV; rw [if_neg ho]; rfl, fun _ => hb2, fun h => absurd (HT.out.symm.trans h) ho⟩

/-- What Take and Give answer. -/
def TurnAt (v : Value) (n : Nat) (B : Nat → Nat) (i m : Int) (t : Bool) (o : Int) (w : World) (r : Ending) (w' : World) : Prop :=
  r = .returned (errV (turnE n B i m t o)) ∧ (turnE n B i m t o ≠ 0 → Below w.heap.size w w') ∧ (turnE n B i m t o = 0 → ∃ b, v = .pointer (some ⟨b, 0, none⟩) ∧ SetAt w' b n (flipsB B i.toNat m.toNat) ∧ Upd b w w')

theorem take_any (v : Value) (n : Nat) (B : Nat → Nat) (i m : Int) (w : World) (h : SetV w v n B) (hi : i ≤ 9223372036854775807) :
    Calls Tryd.prog 16 #[v, .int .i64 i, .int .i64 m] w fun r w' => TurnAt v n B i m false 9 w r w' := by
  have ht := turn_any v n B i m false 9 (by decide) w h hi
  have hv : v = .pointer none ∨ ∃ b, v = .pointer (some ⟨b, 0, none⟩) := by
    rcases h with ⟨rfl, _⟩ | ⟨b, rfl, _⟩
    · exact .inl rfl
    · exact .inr ⟨b, rfl⟩
  clear h
  rcases hv with rfl | ⟨b, rfl⟩
  all_goals
    go_enter Tryd.func16, Tryd.ntmps16
    go_wp2_with fail
    refine ht.mono ?_
    rintro r w1 ⟨rfl, h1⟩
    clear ht
    generalize hev : errV (turnE n B i m false 9) = ev at *
    go_wp2
    go_ret
    exact ⟨by rw [hev]; rfl, h1⟩

theorem give_any (v : Value) (n : Nat) (B : Nat → Nat) (i m : Int) (w : World) (h : SetV w v n B) (hi : i ≤ 9223372036854775807) :
    Calls Tryd.prog 12 #[v, .int .i64 i, .int .i64 m] w fun r w' => TurnAt v n B i m true 8 w r w' := by
  have ht := turn_any v n B i m true 8 (by decide) w h hi
  have hv : v = .pointer none ∨ ∃ b, v = .pointer (some ⟨b, 0, none⟩) := by
    rcases h with ⟨rfl, _⟩ | ⟨b, rfl, _⟩
    · exact .inl rfl
    · exact .inr ⟨b, rfl⟩
  clear h
  rcases hv with rfl | ⟨b, rfl⟩
  all_goals
    go_enter Tryd.func12, Tryd.ntmps12
    go_wp2_with fail
    refine ht.mono ?_
    rintro r w1 ⟨rfl, h1⟩
    clear ht
    generalize hev : errV (turnE n B i m true 8) = ev at *
    go_wp2
    go_ret
    exact ⟨by rw [hev]; rfl, h1⟩

end Go.Proofs.YtkflhakgfpiiaaaDoor.Bt
