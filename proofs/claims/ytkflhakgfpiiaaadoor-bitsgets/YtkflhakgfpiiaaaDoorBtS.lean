/-
  A set in memory; its small calls. No condition.
-/
import Derived.Test.YtkflhakgfpiiaaaDoorBtM
namespace Go.Proofs.YtkflhakgfpiiaaaDoor.Bt
open Go.ChangeShapes Go.WideShapes Go.ChangeAt Go.RowKit

theorem lt_of_heap {w : World} {b : Nat} {o : Obj} (h : w.heap[b]? = some o) : b < w.heap.size := by
  rcases Nat.lt_or_ge b w.heap.size with hl | hl
  · exact hl
  · rw [Array.getElem?_eq_none hl] at h; cases h
theorem lt_of_cell {w : World} {b i : Nat} {v : Value} (h : w.cell? ⟨b, i, none⟩ = some v) : b < w.heap.size := by
  rcases Nat.lt_or_ge b w.heap.size with hl | hl
  · exact hl
  · simp [World.cell?, Array.getElem?_eq_none hl] at h
theorem cell_of_heap {w : World} {b : Nat} {c : Array Value} {t : TypeId} (h : w.heap[b]? = some (.cells c t (0, 0))) (i : Nat) (v : Value) (hv : c[i]? = some v) : w.cell? ⟨b, i, none⟩ = some v := by
  simp [World.cell?, h, hv]
theorem free_of_heap {w : World} {b : Nat} {c : Array Value} {t : TypeId} (h : w.heap[b]? = some (.cells c t (0, 0))) (i : Nat) : w.frozen? ⟨b, i, none⟩ = false := by
  simp [World.frozen?, h]

/-- The cells of a set. -/
structure SetC (c : Array Value) (n : Nat) (B : Nat → Nat) : Prop where
  size : c.size = 505
  bound : c[0]? = some (.int .i64 n)
  byte : ∀ j, j < 504 → c[1 + j]? = some (.int .u8 (B j))
  small : ∀ j, B j < 256
  max : n ≤ 4000
/-- A set lies at block b. -/
def SetAt (w : World) (b n : Nat) (B : Nat → Nat) : Prop := ∃ c, w.heap[b]? = some (.cells c 60 (0, 0)) ∧ SetC c n B
/-- A set, or none at all. -/
def SetV (w : World) (v : Value) (n : Nat) (B : Nat → Nat) : Prop := (v = .pointer none ∧ n = 0) ∨ ∃ b, v = .pointer (some ⟨b, 0, none⟩) ∧ SetAt w b n B
theorem SetAt.below {w w' : World} {C b n : Nat} {B : Nat → Nat} (h : SetAt w b n B) (hb : Below C w w') (hC : w.heap.size ≤ C) : SetAt w' b n B := by
  obtain ⟨c, hc, hs⟩ := h
  exact ⟨c, (hb.block b (Nat.lt_of_lt_of_le (lt_of_heap hc) hC)).trans hc, hs⟩
theorem SetV.below {w w' : World} {C n : Nat} {v : Value} {B : Nat → Nat} (h : SetV w v n B) (hb : Below C w w') (hC : w.heap.size ≤ C) : SetV w' v n B := by
  rcases h with h | ⟨b, rfl, h⟩
  · exact .inl h
  · exact .inr ⟨b, rfl, h.below hb hC⟩
theorem SetV.max {w : World} {n : Nat} {v : Value} {B : Nat → Nat} (h : SetV w v n B) : n ≤ 4000 := by
  rcases h with ⟨_, rfl⟩ | ⟨b, rfl, c, _, h⟩
  · omega
  · exact h.max

set_option maxRecDepth 100000
set_option maxHeartbeats 1000000

theorem isBound_any (n : Int) (w : World) : Calls Tryd.prog 27 #[.int .i64 n] w fun r w' => r = .returned (.bool (decide (1 ≤ n) && decide (n ≤ 4000))) ∧ w' = w := by
  go_enter Tryd.func27, Tryd.ntmps27
  go_wp2
  · go_ret
    rename_i h
    exact ⟨by simp [h], rfl⟩
  · go_ret
    rename_i h
    exact ⟨by simp; omega, rfl⟩

theorem end_any (v : Value) (n : Nat) (B : Nat → Nat) (w : World) (h : SetV w v n B) : Calls Tryd.prog 38 #[v] w fun r w' => r = .returned (.int .i64 n) ∧ w' = w := by
  rcases h with ⟨rfl, rfl⟩ | ⟨b, rfl, c, hc, hs⟩
  · go_enter Tryd.func38, Tryd.ntmps38
    go_wp2
    go_ret
    exact ⟨rfl, rfl⟩
  · have c0 := cell_of_heap hc 0 _ hs.bound
    clear hc hs
    go_enter Tryd.func38, Tryd.ntmps38
    go_wp2
    go_ret
    exact ⟨rfl, rfl⟩

theorem and_bit (x k : Nat) (hx : x < 256) (hk : k < 8) : (bits .and .u8 (x : Int) ((2 ^ k : Nat) : Int) != 0) = x.testBit k := by
  have key : ∀ x : Fin 256, ∀ k : Fin 8, (bits .and .u8 ((x.val : Nat) : Int) ((2 ^ k.val : Nat) : Int) != 0) = x.val.testBit k.val := by decide +kernel
  exact key ⟨x, hx⟩ ⟨k, hk⟩
theorem xor_bit (x k : Nat) (hx : x < 256) (hk : k < 8) : bits .xor .u8 (x : Int) ((2 ^ k : Nat) : Int) = ((x ^^^ 2 ^ k : Nat) : Int) := by
  have key : ∀ x : Fin 256, ∀ k : Fin 8, bits .xor .u8 ((x.val : Nat) : Int) ((2 ^ k.val : Nat) : Int) = ((x.val ^^^ 2 ^ k.val : Nat) : Int) := by decide +kernel
  exact key ⟨x, hx⟩ ⟨k, hk⟩

theorem bit_any (i : Nat) (w : World) (hi : i ≤ 100000) : Calls Tryd.prog 39 #[.int .i64 i] w fun r w' => r = .returned (.tuple #[.int .i64 ((i / 8 : Nat) : Int), .int .u8 ((2 ^ (i % 8) : Nat) : Int)]) ∧ w' = w.drew := by
  have HE : Hid ((2 : Int) ^ (i % 8) % 256 = ((2 ^ (i % 8) : Nat) : Int)) := by
    have h : 2 ^ (i % 8) < 2 ^ 8 := Nat.pow_lt_pow_right (by decide) (by omega)
    show _ = _
    rw [Int.natCast_pow]
    refine Int.emod_eq_of_lt (Int.le_of_lt (Int.pow_pos (by decide))) ?_
    have : ((2 ^ (i % 8) : Nat) : Int) < 256 := by omega
    rwa [Int.natCast_pow] at this
  go_enter Tryd.func39, Tryd.ntmps39
  go_wp2
  go_region
  go_wp2
  go_ret2
  exact ⟨by rw [← HE.out]; rfl, rfl⟩

theorem has_any (v : Value) (n : Nat) (B : Nat → Nat) (i : Int) (w : World) (h : SetV w v n B) (hi : i ≤ 9223372036854775807) : Calls Tryd.prog 26 #[v, .int .i64 i] w fun r w' => r = .returned (.bool (decide (0 ≤ i) && decide (i < n) && tk B i.toNat)) ∧ Below w.heap.size w w' := by
  have hend := end_any v n B w h
  have hv : v = .pointer none ∨ ∃ b, v = .pointer (some ⟨b, 0, none⟩) := by
    rcases h with ⟨rfl, _⟩ | ⟨b, rfl, _⟩
    · exact .inl rfl
    · exact .inr ⟨b, rfl⟩
  have HV : Hid (SetV w v n B) := h
  clear h
  by_cases h0 : i < 0
  · have HR : Hid ((decide (0 ≤ i) && decide (i < n) && tk B i.toNat) = false) := by show _ = _; rw [decide_eq_false (by omega)]; rfl
    rcases hv with rfl | ⟨b, rfl⟩
    all_goals
      go_enter Tryd.func26, Tryd.ntmps26
      go_wp2
      go_ret
      exact ⟨by rw [HR.out]; rfl, Below.refl _ _⟩
  · by_cases h1 : i < n
    · obtain ⟨k, rfl⟩ : ∃ k : Nat, i = k := ⟨i.toNat, by omega⟩
      have hkn : k < n := by omega
      have hmx := HV.out.max
      rcases HV.out with ⟨_, h2⟩ | ⟨b, rfl, c, hc, hs⟩
      · omega
      · have cb := cell_of_heap hc (1 + k / 8) _ (hs.byte (k / 8) (by omega))
        have HR : Hid ((decide (0 ≤ (k : Int)) && decide ((k : Int) < n) && tk B (k : Int).toNat) = (bits .and .u8 (B (k / 8) : Int) ((2 ^ (k % 8) : Nat) : Int) != 0)) := by
          show _ = _
          rw [and_bit _ _ (hs.small _) (by omega), decide_eq_true (by omega), decide_eq_true h1]
          rfl
        have hx8 : ((k / 8 : Nat) : Int) < 504 := by omega
        clear hc hs
        generalize hbb : ((2 ^ (k % 8) : Nat) : Int) = pb at *
        go_enter Tryd.func26, Tryd.ntmps26
        go_wp2_with fail
        refine hend.mono ?_
        rintro r w1 ⟨rfl, hw1⟩
        subst hw1
        clear hend
        go_wp2_with fail
        refine (bit_any k _ (by omega)).mono ?_
        rintro r w2 ⟨rfl, hw2⟩
        subst hw2
        rw [hbb]
        go_wp2
        go_ret
        exact ⟨by rw [HR.out]; rfl, (Below.refl _ _).drew⟩
    · have HR : Hid ((decide (0 ≤ i) && decide (i < n) && tk B i.toNat) = false) := by show _ = _; rw [decide_eq_false h1]; simp
      rcases hv with rfl | ⟨b, rfl⟩
      all_goals
        go_enter Tryd.func26, Tryd.ntmps26
        go_wp2_with fail
        refine hend.mono ?_
        rintro r w1 ⟨rfl, rfl⟩
        clear hend
        go_wp2
        go_ret
        exact ⟨by rw [HR.out]; rfl, Below.refl _ _⟩

end Go.Proofs.YtkflhakgfpiiaaaDoor.Bt
