/-
  NvmeLasts: what was flushed, or forced, lasts, whatever is kept of what comes behind. No condition.
-/
import Derived.Test.YtkfphmhnaelflaaNvPut
import Derived.Test.YtkfphmhnaelflaaNvForces
namespace Go.Proofs.Ytkfphmhnaelflaa.Nv
open Go.ChangeShapes Go.WideShapes Go.ChangeAt Go.RowKit Go.Proofs.Fa

theorem four_new : Four (fun _ => True) (fun _ => ⟨#[]⟩) 0 (newD 4 8) :=
  ⟨rfl, rfl, rfl, rfl, by simp [newD], fun c hc => (by cases hc), fun c hc => (by cases hc), fun s _ h => absurd trivial h, Nat.zero_le _, Nat.le_refl _⟩

/-- A row of four texts, up to a place. -/
def rowC (A : Int → ByteArray) (m : Nat) : Array Value := ((List.range 4).map (fun p => if p < m then Value.string (A (p : Nat)) else Value.string ⟨#[]⟩)).toArray
theorem row_set (A : Int → ByteArray) (m : Nat) (hm : m < 4) : (rowC A m).setIfInBounds m (.string (A (m : Nat))) = rowC A (m + 1) := by
  apply Array.ext
  · simp [rowC]
  · intro i h1 h2
    have hi : i < 4 := by simpa [rowC] using h2
    by_cases him : i = m
    · subst him
      simp [rowC]
    · rw [Array.getElem_setIfInBounds_ne (by simpa [rowC] using hi) (fun e => him e.symm)]
      simp only [rowC, List.getElem_toArray, List.getElem_map, List.getElem_range]
      by_cases h : i < m
      · rw [if_pos h, if_pos (by omega)]
      · rw [if_neg h, if_neg (by omega)]
/-- A row of four flags. -/
def flagC (f : Nat → Bool) : Array Value := #[.bool (f 0), .bool (f 1), .bool (f 2), .bool (f 3)]
theorem flag_get (f : Nat → Bool) (m : Nat) (hm : m < 4) : (flagC f)[m]? = some (.bool (f m)) := by
  match m, hm with
  | 0, _ => rfl
  | 1, _ => rfl
  | 2, _ => rfl
  | 3, _ => rfl
theorem flag_set (f : Nat → Bool) (m : Nat) (hm : m < 4) : (flagC f).setIfInBounds m (.bool true) = flagC (fun q => f q || q == m) := by
  match m, hm with
  | 0, _ => simp [flagC]
  | 1, _ => simp [flagC]
  | 2, _ => simp [flagC]
  | 3, _ => simp [flagC]

set_option maxRecDepth 100000
set_option maxHeartbeats 40000000

theorem nvmeLasts_walk (a0 : Option Addr) (len0 cap0 : Nat) (L : Nat → Act6) (a1 : Option Addr) (len1 cap1 : Nat) (M : Nat → Act6) (a2 : Option Addr) (len2 cap2 : Nat) (L2 : Nat → Int) (w : World) (h0 : ActsAt w a0 len0 L) (h1 : ActsAt w a1 len1 M) (h2 : CellsAt w a2 len2 (fun i => .int .i64 (L2 i))) (hl2 : len2 ≤ maxLen) (hcp2 : len2 ≤ cap2) :
    Calls Try.prog 4 #[.slice a0 len0 cap0, .slice a1 len1 cap1, .slice a2 len2 cap2] w fun e w' => e = .returned (.bool true) ∧ Below w.heap.size w w' := by
  have H0 : Hid (ActsAt w a0 len0 L) := h0
  have H1 : Hid (ActsAt w a1 len1 M) := h1
  have H2' : Hid (CellsAt w a2 len2 (fun i => .int .i64 (L2 i))) := h2
  clear h0 h1 h2
  unfold maxLen at hl2
  go_enter Try.func4, Try.ntmps4
  go_wp2_with fail
  refine (speaks_any w).mono ?_
  rintro e w1 ⟨rfl, hb1⟩
  have HB1 : Hid (Below w.heap.size w w1) := hb1
  clear hb1
  go_wp2_with fail
  refine (new_any 4 8 (by decide) (by decide) (by decide) (by decide) _).mono ?_
  rintro e w2 ⟨b, rfl, hd2, hb2⟩
  obtain ⟨w3, hw3⟩ : ∃ w3, w3 = w2.alloc (Obj.cells #[.pointer (some ⟨b, 0, none⟩)] 27) := ⟨_, rfl⟩
  have hX : LivesX (fun q => q < w1.heap.size ∨ q = w2.heap.size) w3 b (newD 4 8) := by rw [hw3]; exact (Lives.x hd2).hole _
  obtain ⟨H, hH⟩ : ∃ H : Nat → Prop, H = fun q => q < w1.heap.size ∨ q = w2.heap.size := ⟨_, rfl⟩
  have hs12 := hb2.size
  have HZ3 : Hid (w3.heap[w2.heap.size]? = some (.cells #[.pointer (some ⟨b, 0, none⟩)] 27 (0, 0))) := by rw [hw3]; exact heap_alloc_new _ _
  have HHz : Hid (H w2.heap.size) := by rw [hH]; exact .inr rfl
  have HHl : Hid (∀ q, q < w1.heap.size → H q) := by rw [hH]; exact fun q h => .inl h
  have HHt : Hid (∀ q, H q → q < w3.heap.size) := by
    rw [hH, hw3]
    rintro q (h | h)
    · simp; omega
    · simp; omega
  have HX3 : Hid (LivesX H w3 b (newD 4 8)) := by rw [hH]; exact hX
  have HB3 : Hid (Below w1.heap.size w1 w3) := by rw [hw3]; exact hb2.alloc hs12 _
  have HBW : Hid (∀ w', TurnX H w3 w' → Below w.heap.size w w') := fun w' ht => HB1.out.trans ((HB3.out.trans (Turn.below ht HB3.out.size (fun q hq => by rcases Nat.lt_or_ge q w1.heap.size with g | g; exact absurd (HHl.out q g) hq; exact g))).mono HB1.out.size)
  clear hd2 hX hH hb2 hs12
  go_wp2
  rw [← hw3]
  clear hw3
  obtain ⟨z, hz⟩ : ∃ z, z = w2.heap.size := ⟨_, rfl⟩
  rw [← hz] at HZ3 HHz ⊢
  clear hz
  go_loopw [10] (fun iv wr => ∃ (k : Nat) (d : Dev), k ≤ 8 ∧ iv = .int .i64 k ∧ Four (fun _ => True) (fun _ => ⟨#[]⟩) k d ∧ LivesX H wr b d ∧ TurnX H w3 wr) (fun i _ => 8 - (intOf i).toNat)
  case atStart => exact ⟨0, _, by decide, rfl, four_new, HX3.out, Turn.refl _ _⟩
  case round =>
    clear HX3
    obtain ⟨k, d, hk, rfl, hf, hx, ht⟩ := hrel
    obtain ⟨w4, rfl⟩ : ∃ w4, w4 = wr := ⟨_, rfl⟩
    have HF4 : Hid (Four (fun _ => True) (fun _ => ⟨#[]⟩) k d) := hf
    have HX4 : Hid (LivesX H w4 b d) := hx
    have HT4 : Hid (TurnX H w3 w4) := ht
    have HH4 : Hid (∀ q, H q → q < w4.heap.size) := fun q g => Nat.lt_of_lt_of_le (HHt.out q g) ht.size
    have HZ4 : Hid (w4.heap[z]? = some (.cells #[.pointer (some ⟨b, 0, none⟩)] 27 (0, 0))) := TurnX.at ht HZ3.out HHz.out
    have HW4 : Hid (Below w.heap.size w w4) := HB1.out.trans ((HB3.out.trans (Turn.below ht HB3.out.size (fun q hq => by rcases Nat.lt_or_ge q w1.heap.size with g | g; exact absurd (HHl.out q g) hq; exact g))).mono HB1.out.size)
    clear hf hx ht
    by_cases hlt : k < len0 ∧ k < 8
    · obtain ⟨hk1, hk2⟩ := hlt
      obtain ⟨b0, off0, rfl, hb0, hc0⟩ : ∃ b0 off0, a0 = some ⟨b0, off0, none⟩ ∧ b0 < w.heap.size ∧ ∀ i, i < len0 → ActCells w b0 (off0 + i * 6) (L i) := by
        rcases H0.out.1 with h | h
        · omega
        · exact h
      obtain ⟨e0, e1, e2, e3, e4, e5⟩ := (hc0 k hk1).below HW4.out hb0
      have HWF : Hid (ActWf (L k)) := H0.out.2 k hk1
      clear hc0
      obtain ⟨x, hx⟩ : ∃ x, L k = x := ⟨_, rfl⟩
      rw [hx] at e0 e1 e2 e3 e4 e5 HWF
      clear hx
      obtain ⟨xw, xk, xs, xd, xn, ka, kl, kc⟩ := x
      dsimp only at e0 e1 e2 e3 e4 e5
      go_wp2_with fail
      refine (four_put ⟨xw, xk, xs, xd, xn, ka, kl, kc⟩ HWF.out w4 H z b HF4.out (by omega) trivial HZ4.out HHz.out HX4.out HH4.out).mono ?_
      rintro e w5 ⟨⟨u, rfl⟩, hx5, ht5⟩
      have HX5 : Hid (LivesX H w5 b (putF d ⟨xw, xk, xs, xd, xn, ka, kl, kc⟩)) := hx5
      have HT5 : Hid (TurnX H w3 w5) := TurnX.trans HT4.out ht5
      have HF5 : Hid (Four (fun _ => True) (fun _ => ⟨#[]⟩) (k + 1) (putF d ⟨xw, xk, xs, xd, xn, ka, kl, kc⟩)) := HF4.out.put _ trivial
      clear hx5 ht5
      go_wp2
      go_roundw
      case rel => exact ⟨k + 1, _, by omega, by go_num, HF5.out, HX5.out, HT5.out⟩
      case measure => simp [intOf]; omega
    · have hor : ¬ k < len0 ∨ (k < len0 ∧ ¬ k < 8) := by omega
      clear hlt
      rcases hor with g1 | ⟨g1, g2⟩
      all_goals
        go_wp2
        go_loopw [12] (fun _ wr => ∃ d : Dev, Four (fun _ => True) (fun _ => ⟨#[]⟩) 8 d ∧ LivesX H wr b d ∧ TurnX H w3 wr) (fun _ wr => muW b wr)
        case atStart => exact ⟨d, HF4.out.mono (fun _ h => h) hk, HX4.out, HT4.out⟩
        case round =>
          clear HF4 HX4 HT4 HH4 HZ4 HW4
          obtain ⟨d5, hf5, hx5, ht5⟩ := hrel
          obtain ⟨w5, rfl⟩ : ∃ w5, w5 = wr := ⟨_, rfl⟩
          have HF5 : Hid (Four (fun _ => True) (fun _ => ⟨#[]⟩) 8 d5) := hf5
          have HX5 : Hid (LivesX H w5 b d5) := hx5
          have HT5 : Hid (TurnX H w3 w5) := ht5
          have HO5 : Hid (Ok d5) := hf5.ok (by decide)
          have hz5 : w5.heap[z]? = some (.cells #[.pointer (some ⟨b, 0, none⟩)] 27 (0, 0)) := TurnX.at ht5 HZ3.out HHz.out
          have HZ5 : Hid (w5.heap[z]? = some (.cells #[.pointer (some ⟨b, 0, none⟩)] 27 (0, 0))) := hz5
          have cz := cell_of_heap hz5 0 _ rfl
          have HMU : Hid (muW b w5 = d5.waiting.length) := mu_of hx5
          clear hf5 hx5 ht5 hz5
          go_wp2_with fail
          refine (x_pending HX5.out HO5.out).mono ?_
          rintro e w6 ⟨⟨pa, pc, rfl⟩, hx6, hb6⟩
          have HX6 : Hid (LivesX H w6 b d5) := hx6
          have HT6 : Hid (TurnX H w3 w6) := TurnX.trans HT5.out (Turn.of_below hb6)
          have HH6 : Hid (∀ q, H q → q < w6.heap.size) := fun q g => Nat.lt_of_lt_of_le (HHt.out q g) HT6.out.size
          have hz6 : w6.heap[z]? = some (.cells #[.pointer (some ⟨b, 0, none⟩)] 27 (0, 0)) := TurnX.at HT6.out HZ3.out HHz.out
          have HZ6 : Hid (w6.heap[z]? = some (.cells #[.pointer (some ⟨b, 0, none⟩)] 27 (0, 0))) := hz6
          have cz6 := cell_of_heap hz6 0 _ rfl
          clear hx6 hb6 hz6 cz
          obtain ⟨n, hn⟩ : ∃ n, d5.waiting.length = n := ⟨_, rfl⟩
          rw [hn]
          have HNN : Hid (d5.waiting.length = n) := hn
          clear hn
          by_cases hn0 : 0 < n
          · have hC := HF5.out.complete
            have hne : d5.waiting ≠ [] := by
              intro e
              have := HNN.out
              rw [e] at this
              simp at this
              omega
            have HF7 : Hid (Four (fun _ => True) (fun _ => ⟨#[]⟩) 8 (completeF d5 0).1) := hC.1
            have HC7 : Hid ((completeF d5 0).2.2 = 0) := (hC.2 hne).1
            have HL7 : Hid ((completeF d5 0).1.waiting.length + 1 = d5.waiting.length) := (hC.2 hne).2
            clear hC hne
            go_wp2_with fail
            refine (x_complete 0 HX6.out HO5.out (by rw [HF5.out.keep]; exact Nat.zero_le _) HH6.out).mono ?_
            rintro e w7 ⟨rfl, hx7, ht7⟩
            have HX7 : Hid (LivesX H w7 b (completeF d5 0).1) := hx7
            have HT7 : Hid (TurnX H w3 w7) := TurnX.trans HT6.out ht7
            rw [HC7.out, errV_0]
            clear hx7 ht7
            obtain ⟨cc, hcc⟩ : ∃ cc, (completeF d5 0).2.1 = cc := ⟨_, rfl⟩
            rw [hcc]
            clear hcc
            obtain ⟨ck, cs, cd, ct⟩ := cc
            rw [show Cmd.agg ⟨ck, cs, cd, ct⟩ = .agg #[.int .i64 ck, .int .i64 cs, .string cd, .int .i64 ct] from rfl]
            have HX8 : Hid (LivesX H (w7.alloc (Obj.cells #[.int .i64 ck, .int .i64 cs, .string cd, .int .i64 ct] 37)) b (completeF d5 0).1) := HX7.out.below ((Below.refl _ _).alloc (Nat.le_refl _) _)
            have HM8 : Hid (muW b (w7.alloc (Obj.cells #[.int .i64 ck, .int .i64 cs, .string cd, .int .i64 ct] 37)) < muW b w5) := by
              show _ < _
              rw [mu_of HX8.out, HMU.out]
              have := HL7.out
              omega
            go_wp2
            go_roundw
            case rel => exact ⟨_, HF7.out, HX8.out, HT7.out.alloc _⟩
            case measure => exact HM8.out
          · have HWE : Hid (d5.waiting = []) := List.eq_nil_of_length_eq_zero (by have := HNN.out; omega)
            have hFL := HF5.out.flush HWE.out
            have HFL : Hid (submitN d5 ⟨4, 0, ⟨#[]⟩, 0⟩ = 0 ∧ submitF d5 ⟨4, 0, ⟨#[]⟩, 0⟩ = { d5 with waiting := [⟨4, 0, ⟨#[]⟩, 0⟩] } ∧ (completeF { d5 with waiting := [⟨4, 0, ⟨#[]⟩, 0⟩] } 0).2.2 = 0) := ⟨hFL.1, hFL.2.1, hFL.2.2.1⟩
            obtain ⟨A, hA⟩ := hFL.2.2.2
            have HA : Hid (Four (fun _ => False) A 0 (completeF { d5 with waiting := [⟨4, 0, ⟨#[]⟩, 0⟩] } 0).1) := hA
            clear hFL hA
            go_wp2_with fail
            refine (x_submit ⟨4, 0, ⟨#[]⟩, 0⟩ HX6.out HO5.out HH6.out).mono ?_
            rintro e w7 ⟨rfl, hx7, ht7⟩
            rw [HFL.out.1, errV_0]
            rw [HFL.out.2.1] at hx7
            have HX7 : Hid (LivesX H w7 b { d5 with waiting := [⟨4, 0, ⟨#[]⟩, 0⟩] }) := hx7
            have HT7 : Hid (TurnX H w3 w7) := TurnX.trans HT6.out ht7
            have HH7 : Hid (∀ q, H q → q < w7.heap.size) := fun q g => Nat.lt_of_lt_of_le (HHt.out q g) HT7.out.size
            have HO7 : Hid (Ok { d5 with waiting := [⟨4, 0, ⟨#[]⟩, 0⟩] }) := by
              have := HO5.out.submit ⟨4, 0, ⟨#[]⟩, 0⟩
              rw [HFL.out.2.1] at this
              exact this
            have hz7 : w7.heap[z]? = some (.cells #[.pointer (some ⟨b, 0, none⟩)] 27 (0, 0)) := TurnX.at HT7.out HZ3.out HHz.out
            have cz7 := cell_of_heap hz7 0 _ rfl
            clear hx7 ht7 hz7 cz6
            go_wp2_with fail
            refine (x_complete 0 HX7.out HO7.out (by show d5.keep.length ≤ 1000000; rw [HF5.out.keep]; exact Nat.zero_le _) HH7.out).mono ?_
            rintro e w8 ⟨rfl, hx8, ht8⟩
            rw [HFL.out.2.2, errV_0]
            obtain ⟨d8, hd8⟩ : ∃ d8, (completeF { d5 with waiting := [⟨4, 0, ⟨#[]⟩, 0⟩] } 0).1 = d8 := ⟨_, rfl⟩
            rw [hd8] at HA hx8
            have HX8 : Hid (LivesX H w8 b d8) := hx8
            have HT8 : Hid (TurnX H w3 w8) := TurnX.trans HT7.out ht8
            clear hx8 ht8 hd8 cz7
            obtain ⟨cc, hcc⟩ : ∃ cc, (completeF { d5 with waiting := [⟨4, 0, ⟨#[]⟩, 0⟩] } 0).2.1 = cc := ⟨_, rfl⟩
            rw [hcc]
            clear hcc
            obtain ⟨ck, cs, cd, ct⟩ := cc
            rw [show Cmd.agg ⟨ck, cs, cd, ct⟩ = .agg #[.int .i64 ck, .int .i64 cs, .string cd, .int .i64 ct] from rfl]
            obtain ⟨wA, hwA⟩ : ∃ wA, wA = w8.alloc (Obj.cells #[.int .i64 ck, .int .i64 cs, .string cd, .int .i64 ct] 37) := ⟨_, rfl⟩
            obtain ⟨w9, hw9⟩ : ∃ w9, w9 = wA.alloc (Obj.cells #[.string ⟨#[]⟩, .string ⟨#[]⟩, .string ⟨#[]⟩, .string ⟨#[]⟩] 46) := ⟨_, rfl⟩
            have HXA : Hid (LivesX H wA b d8) := by rw [hwA]; exact HX8.out.below ((Below.refl _ _).alloc (Nat.le_refl _) _)
            have hT9 : TurnX H w3 w9 := by rw [hw9, hwA]; exact (HT8.out.alloc _).alloc _
            obtain ⟨wa, hwa⟩ : ∃ wa, wa = w8.heap.size + 1 := ⟨_, rfl⟩
            have hwa' : wa = wA.heap.size := by rw [hwa, hwA]; simp
            obtain ⟨H2, hH2⟩ : ∃ H2 : Nat → Prop, H2 = fun q => H q ∨ q = wa := ⟨_, rfl⟩
            have HX9 : Hid (LivesX H2 w9 b d8) := by rw [hH2, hw9, hwa']; exact HXA.out.hole _
            have HA9 : Hid (w9.heap[wa]? = some (.cells (rowC A 0) 46 (0, 0))) := by rw [hw9, hwa']; exact heap_alloc_new _ _
            have HH2 : Hid ((∀ q, H q → H2 q) ∧ H2 wa) := by rw [hH2]; exact ⟨fun q g => .inl g, .inr rfl⟩
            have HT9 : Hid (TurnX H w3 w9) := hT9
            have HNA : Hid (¬ H wa) := fun g => by
              have h1 := HHt.out wa g
              have h2 := HT8.out.size
              omega
            have HH2t : Hid (∀ q, H2 q → q < w9.heap.size) := by
              rw [hH2]
              rintro q (g | g)
              · exact Nat.lt_of_lt_of_le (HHt.out q g) hT9.size
              · rw [g]; exact lt_of_heap HA9.out
            have HLK : Hid (∀ s : Nat, s < 4 → lookN d8 s = 0 ∧ lookT d8 s = A s) := by
              have hc : d8.cache = [] := by
                cases h : d8.cache with
                | nil => rfl
                | cons c r => exact absurd (HA.out.cac c (by rw [h]; exact List.mem_cons_self ..)).2.2 id
              exact fun s hs => ⟨(HA.out.look hc s hs).1, (HA.out.look hc s hs).2 id⟩
            have HO8 : Hid (Ok d8) := HA.out.ok (by decide)
            clear hT9 hwa' hH2
            go_wp2
            rw [← hwA, ← hw9, ← hwa]
            clear hwA hw9 hwa
            go_loopw [16] (fun iv wr => ∃ m : Nat, m ≤ 4 ∧ iv = .int .i64 m ∧ wr.heap[wa]? = some (.cells (rowC A m) 46 (0, 0)) ∧ LivesX H2 wr b d8 ∧ TurnX H w3 wr ∧ w9.heap.size ≤ wr.heap.size) (fun i _ => 4 - (intOf i).toNat)
            case atStart => exact ⟨0, by decide, rfl, HA9.out, HX9.out, HT9.out, Nat.le_refl _⟩
            case round =>
              clear HX9 HA9 HT9
              obtain ⟨m, hm4, rfl, ha, hx, ht, hsz⟩ := hrel
              obtain ⟨wB, rfl⟩ : ∃ wB, wB = wr := ⟨_, rfl⟩
              have HAB : Hid (wB.heap[wa]? = some (.cells (rowC A m) 46 (0, 0))) := ha
              have HXB : Hid (LivesX H2 wB b d8) := hx
              have HTB : Hid (TurnX H w3 wB) := ht
              have HSB : Hid (w9.heap.size ≤ wB.heap.size) := hsz
              have cz := cell_of_heap (TurnX.at ht HZ3.out HHz.out) 0 _ rfl
              clear ha hx ht hsz
              by_cases hm : m < 4
              · have HL : Hid (lookN d8 (m : Int) = 0 ∧ lookT d8 (m : Int) = A (m : Int)) := HLK.out m hm
                go_wp2_with fail
                refine (x_look (m : Int) HXB.out HO8.out).mono ?_
                rintro e wC ⟨rfl, hxC, hbC⟩
                rw [HL.out.1, HL.out.2, errV_0]
                have haC : wC.heap[wa]? = some (.cells (rowC A m) 46 (0, 0)) := (hbC.block _ (lt_of_heap HAB.out)).trans HAB.out
                have HAC : Hid (wC.heap[wa]? = some (.cells (rowC A m) 46 (0, 0))) := haC
                have cm : wC.cell? ⟨wa, m, none⟩ = some (.string ⟨#[]⟩) := cell_of_heap haC _ _ (by simp [rowC, hm])
                have fm : wC.frozen? ⟨wa, m, none⟩ = false := free_of_heap haC _
                have HXC : Hid (LivesX H2 (wC.setCell ⟨wa, m, none⟩ (.string (A (m : Int)))) b d8) := hxC.set wa m _ HH2.out.2
                have HTC : Hid (TurnX H w3 (wC.setCell ⟨wa, m, none⟩ (.string (A (m : Int))))) := (TurnX.trans HTB.out (Turn.of_below hbC)).setCell wa m _ (.inl HNA.out)
                have HAD : Hid ((wC.setCell ⟨wa, m, none⟩ (.string (A (m : Int)))).heap[wa]? = some (.cells (rowC A (m + 1)) 46 (0, 0))) := by
                  have h := heap_setCell_same wC wa m _ 46 (.string (A (m : Int))) haC
                  rw [row_set A m hm] at h
                  exact h
                have HSC : Hid (w9.heap.size ≤ (wC.setCell ⟨wa, m, none⟩ (.string (A (m : Int)))).heap.size) := by have := hbC.size; have := HSB.out; show _ ≤ _; simp; omega
                clear hxC hbC haC
                go_wp2
                go_roundw
                case rel => exact ⟨m + 1, by omega, by go_num, HAD.out, HXC.out, HTC.out, HSC.out⟩
                case measure => simp [intOf]; omega
              · obtain ⟨hm9, hmb⟩ : m = 4 ∧ ¬ ((m : Int) < 4) := by omega
                have HAE : Hid (wB.heap[wa]? = some (.cells (rowC A 4) 46 (0, 0))) := by rw [← hm9]; exact HAB.out
                clear hm9 hm
                obtain ⟨wD, hwD⟩ : ∃ wD, wD = wB.alloc (Obj.cells #[.bool false, .bool false, .bool false, .bool false] 47) := ⟨_, rfl⟩
                obtain ⟨wb, hwb⟩ : ∃ wb, wb = wB.heap.size := ⟨_, rfl⟩
                obtain ⟨H3, hH3⟩ : ∃ H3 : Nat → Prop, H3 = fun q => H2 q ∨ q = wb := ⟨_, rfl⟩
                have HXD : Hid (LivesX H3 wD b d8) := by rw [hH3, hwD, hwb]; exact HXB.out.hole _
                have HFD : Hid (wD.heap[wb]? = some (.cells (flagC (fun _ => false)) 47 (0, 0))) := by rw [hwD, hwb]; exact heap_alloc_new _ _
                have HAD : Hid (wD.heap[wa]? = some (.cells (rowC A 4) 46 (0, 0))) := by rw [hwD]; exact (Below.heap_alloc _ _ _ (lt_of_heap HAE.out)).trans HAE.out
                have HTD : Hid (TurnX H w3 wD) := by rw [hwD]; exact HTB.out.alloc _
                have HH3 : Hid ((∀ q, H q → H3 q) ∧ H3 wa ∧ H3 wb) := by rw [hH3]; exact ⟨fun q g => .inl (HH2.out.1 q g), .inl HH2.out.2, .inr rfl⟩
                have hsD : wB.heap.size < wD.heap.size := by rw [hwD]; simp
                have HH3t : Hid (∀ q, H3 q → q < wD.heap.size) := by
                  rw [hH3]
                  rintro q (g | g)
                  · have := HH2t.out q g; have := HSB.out; omega
                  · omega
                have HNB : Hid (¬ H wb) := fun g => by
                  have h1 := HHt.out wb g
                  have h2 := HTB.out.size
                  omega
                have HNE : Hid (wa ≠ wb) := fun e => by
                  have h1 := lt_of_heap HAE.out
                  omega
                have HF0 : Hid (Four (fun s => (fun _ => false) s.toNat = true) A 0 d8) := HA.out.mono (fun s h => h.elim) (Nat.le_refl _)
                clear hH3 hsD
                go_wp2
                rw [← hwD, ← hwb]
                clear hwD hwb
                go_loopw [18] (fun iv wr => ∃ (i : Nat) (d : Dev) (f : Nat → Bool), i ≤ 8 ∧ iv = .int .i64 i ∧ Four (fun s => f s.toNat = true) A i d ∧ LivesX H3 wr b d ∧ wr.heap[wa]? = some (.cells (rowC A 4) 46 (0, 0)) ∧ wr.heap[wb]? = some (.cells (flagC f) 47 (0, 0)) ∧ TurnX H w3 wr ∧ wD.heap.size ≤ wr.heap.size) (fun i _ => 8 - (intOf i).toNat)
                case atStart => exact ⟨0, d8, fun _ => false, by decide, rfl, HF0.out, HXD.out, HAD.out, HFD.out, HTD.out, Nat.le_refl _⟩
                case round =>
                  clear HXD HFD HAD HTD HF0
                  obtain ⟨i, dE, f, hi8, rfl, hF, hX, hA, hFl, hT, hS⟩ := hrel
                  obtain ⟨wE, rfl⟩ : ∃ wE, wE = wr := ⟨_, rfl⟩
                  have HFE : Hid (Four (fun s => f s.toNat = true) A i dE) := hF
                  have HXE : Hid (LivesX H3 wE b dE) := hX
                  have HAE : Hid (wE.heap[wa]? = some (.cells (rowC A 4) 46 (0, 0))) := hA
                  have HLE : Hid (wE.heap[wb]? = some (.cells (flagC f) 47 (0, 0))) := hFl
                  have HTE : Hid (TurnX H w3 wE) := hT
                  have HSE : Hid (wD.heap.size ≤ wE.heap.size) := hS
                  have HZE : Hid (wE.heap[z]? = some (.cells #[.pointer (some ⟨b, 0, none⟩)] 27 (0, 0))) := TurnX.at hT HZ3.out HHz.out
                  have HH3E : Hid (∀ q, H3 q → q < wE.heap.size) := fun q g => Nat.lt_of_lt_of_le (HH3t.out q g) hS
                  clear hF hX hA hFl hT hS
                  by_cases hlt2 : i < len1 ∧ i < 8
                  · obtain ⟨hi1, hi2⟩ := hlt2
                    obtain ⟨b1, off1, rfl, hb1, hc1⟩ : ∃ b1 off1, a1 = some ⟨b1, off1, none⟩ ∧ b1 < w.heap.size ∧ ∀ i, i < len1 → ActCells w b1 (off1 + i * 6) (M i) := by
                      rcases H1.out.1 with h | h
                      · omega
                      · exact h
                    obtain ⟨e0, e1, e2, e3, e4, e5⟩ := (hc1 i hi1).below (HBW.out _ HTE.out) hb1
                    have HWF : Hid (ActWf (M i)) := H1.out.2 i hi1
                    have HCI : Hid (ActCells w b1 (off1 + i * 6) (M i)) := hc1 i hi1
                    clear hc1
                    obtain ⟨x, hx⟩ : ∃ x, M i = x := ⟨_, rfl⟩
                    rw [hx] at e0 e1 e2 e3 e4 e5 HWF HCI
                    clear hx
                    obtain ⟨xw, xk, xs, xd, xn, ka, kl, kc⟩ := x
                    dsimp only at e0 e1 e2 e3 e4 e5
                    go_wp2_with fail
                    refine (four_put (W := fun s => f s.toNat = true ∨ s = sec3 xs) (A := A) (K := i) (d := dE) ⟨xw, xk, xs, xd, xn, ka, kl, kc⟩ HWF.out wE H3 z b (HFE.out.mono (fun s h => .inl h) (Nat.le_refl _)) (by omega) (.inr rfl) HZE.out (HH3.out.1 _ HHz.out) HXE.out HH3E.out).mono ?_
                    rintro e wF ⟨⟨u, rfl⟩, hXF, hTF⟩
                    obtain ⟨s, hs⟩ : ∃ s : Nat, sec3 xs = (s : Int) := ⟨(sec3 xs).toNat, by have := (sec3_in xs).1; omega⟩
                    have hs4 : s < 4 := by have := (sec3_in xs).2; omega
                    have hsb : bits BinOp.and .i64 xs 3 = (s : Int) := hs
                    have HFF : Hid (Four (fun q => (fun p => f p || p == s) q.toNat = true) A (i + 1) (putF dE ⟨xw, xk, xs, xd, xn, ka, kl, kc⟩)) := by
                      have h := (HFE.out.mono (W' := fun q => f q.toNat = true ∨ q = sec3 xs) (fun q h => .inl h) (Nat.le_refl _)).put ⟨xw, xk, xs, xd, xn, ka, kl, kc⟩ (.inr rfl)
                      refine h.mono (fun q hq => ?_) (Nat.le_refl _)
                      rcases hq with hq | hq
                      · simp [hq]
                      · rw [hq, hs]; simp
                    have hTFH : TurnX H wE wF := hTF.mono (fun q hq g => hq (HH3.out.1 q g))
                    have HTF : Hid (TurnX H w3 wF) := TurnX.trans HTE.out hTFH
                    have haF : wF.heap[wa]? = some (.cells (rowC A 4) 46 (0, 0)) := TurnX.at hTF HAE.out HH3.out.2.1
                    have hlF : wF.heap[wb]? = some (.cells (flagC f) 47 (0, 0)) := TurnX.at hTF HLE.out HH3.out.2.2
                    obtain ⟨_, _, g2, _, _, _⟩ := HCI.out.below (HBW.out _ HTF.out) hb1
                    dsimp only at g2
                    have cm : wF.cell? ⟨wb, s, none⟩ = some (.bool (f s)) := cell_of_heap hlF _ _ (flag_get f s hs4)
                    have fm : wF.frozen? ⟨wb, s, none⟩ = false := free_of_heap hlF _
                    have HXG : Hid (LivesX H3 (wF.setCell ⟨wb, s, none⟩ (.bool true)) b (putF dE ⟨xw, xk, xs, xd, xn, ka, kl, kc⟩)) := hXF.set wb s _ HH3.out.2.2
                    have HTG : Hid (TurnX H w3 (wF.setCell ⟨wb, s, none⟩ (.bool true))) := HTF.out.setCell wb s _ (.inl HNB.out)
                    have HAG : Hid ((wF.setCell ⟨wb, s, none⟩ (.bool true)).heap[wa]? = some (.cells (rowC A 4) 46 (0, 0))) := (heap_setCell_other wF ⟨wb, s, none⟩ _ _ HNE.out).trans haF
                    have HLG : Hid ((wF.setCell ⟨wb, s, none⟩ (.bool true)).heap[wb]? = some (.cells (flagC (fun q => f q || q == s)) 47 (0, 0))) := by
                      have h := heap_setCell_same wF wb s _ 47 (.bool true) hlF
                      rw [flag_set f s hs4] at h
                      exact h
                    have HSG : Hid (wD.heap.size ≤ (wF.setCell ⟨wb, s, none⟩ (.bool true)).heap.size) := by have := hTF.size; have := HSE.out; show _ ≤ _; simp; omega
                    clear hXF hTF hTFH haF hlF hs e0 e1 e2 e3 e4 e5
                    go_wp2
                    go_roundw
                    case rel => exact ⟨i + 1, _, fun q => f q || q == s, by omega, by go_num, HFF.out, HXG.out, HAG.out, HLG.out, HTG.out, HSG.out⟩
                    case measure => simp [intOf]; omega
                  · have hor4 : ¬ i < len1 ∨ (i < len1 ∧ ¬ i < 8) := by omega
                    clear hlt2
                    rcases hor4 with g1' | ⟨g1', g2'⟩
                    all_goals
                      have czE := cell_of_heap HZE.out 0 _ rfl
                      obtain ⟨q, hq⟩ : ∃ q : Nat, q = min len2 9 := ⟨_, rfl⟩
                      have hq1 : (if (9 : Int) < (len2 : Int) then (9 : Int) else (len2 : Int)) = (q : Int) := by split <;> omega
                      have hq2 : min (len2 : Int) 9 = (q : Int) := by omega
                      have hqx : q ≤ len2 := by omega
                      have hqc : q ≤ cap2 := by omega
                      have hq9 : q ≤ 9 := by omega
                      clear hq
                      obtain ⟨v7, wK, hrun, ho7, hb7⟩ := keep_row wE.drew a2 q cap2 L2 hq9 (by
                        rcases H2'.out with h | ⟨b2, off2, e, hl, hc⟩
                        · exact .inl (by omega)
                        · have hz := HBW.out _ HTE.out
                          exact .inr ⟨b2, off2, e, Nat.lt_of_lt_of_le hl hz.size, fun i hi => (hz.cell (p := ⟨b2, off2 + i, none⟩) hl).trans (hc i (by omega))⟩)
                      obtain ⟨a7, c7, hv7, _⟩ := row_slice ho7
                      have HO7 : Hid (wK.ownsRow 0 3 1 v7 ((List.range q).map L2).length (icells ((List.range q).map L2))) := ho7
                      have HB7 : Hid (Below wE.heap.size wE wK) := ⟨hb7.os, hb7.tape, hb7.output, hb7.size, hb7.block⟩
                      have HQL : Hid (((List.range q).map L2).length ≤ 1000000) := by show _ ≤ _; rw [List.length_map, List.length_range]; omega
                      obtain ⟨KL, hKL⟩ : ∃ KL, (List.range q).map L2 = KL := ⟨_, rfl⟩
                      rw [hKL] at HO7 HQL hv7
                      clear ho7 hb7 hKL
                      subst hv7
                      have hrun2 : (Builtin.append_ #[23, 23] 23 #[.slice (some ⟨wE.heap.size, 0, none⟩) 0 0, .slice a2 q cap2]).run Try.prog (wE.alloc (Obj.cells #[] 3)).drew = .ok (.slice a7 KL.length c7) wK := hrun
                      have HRUN : Hid (_ = _) := hrun2
                      have HXK : Hid (LivesX H3 wK b dE) := HXE.out.below HB7.out
                      have HZK : Hid (wK.heap[z]? = some (.cells #[.pointer (some ⟨b, 0, none⟩)] 27 (0, 0))) := (HB7.out.block _ (lt_of_heap HZE.out)).trans HZE.out
                      have HH3K : Hid (∀ q, H3 q → q < wK.heap.size) := fun q g => Nat.lt_of_lt_of_le (HH3E.out q g) HB7.out.size
                      have HOE : Hid (Ok dE) := HFE.out.ok (by omega)
                      clear hrun hrun2
                      go_wp2_with fail
                      refine wp_region_held_drew (S := fun W => W.cell? ⟨z, 0, none⟩ = some (.pointer (some ⟨b, 0, none⟩))) (by kernel_rfl) (by exact czE) (fun hHeld => ?_)
                      change wpAnyH _ _ _ _ _ 9 (Array.replicate 9 false) _ _
                      refine wpAnyH_take (i := 0) (oi := _) (v := _) (by simp only [List.getElem?_toArray, List.getElem?_cons_zero]; rfl) (by kernel_rfl) (by kernel_rfl) (by kernel_rfl) (by exact fun _ _ _ h => h) (Or.inl ⟨by rfl, by intro w' hSw; (try dsimp only at hSw); first | (go_simp; done) | (go_simp; with_reducible rfl)⟩) hHeld ?_
                      simp only [Act.put, List.setIfInBounds_toArray, List.set_cons_zero, List.set_cons_succ]
                      refine wpAnyH_take (i := 2) (oi := _) (v := _) (by simp only [List.getElem?_toArray, List.getElem?_cons_succ, List.getElem?_cons_zero]; rfl) (by kernel_rfl) (by kernel_rfl) (by kernel_rfl) (by exact fun _ _ _ h => h) (Or.inl ⟨by rfl, by intro w' hSw; (try dsimp only at hSw); first | (go_simp; done) | (go_simp; with_reducible rfl)⟩) hHeld ?_
                      simp only [Act.put, List.setIfInBounds_toArray, List.set_cons_zero, List.set_cons_succ]
                      refine wpAnyH_take (i := 3) (oi := _) (v := _) (by simp only [List.getElem?_toArray, List.getElem?_cons_succ, List.getElem?_cons_zero]; rfl) (by kernel_rfl) (by kernel_rfl) (by kernel_rfl) (by exact fun _ _ _ h => h) (Or.inl ⟨by rfl, by intro w' hSw; (try dsimp only at hSw); first | (go_simp; done) | (go_simp; with_reducible rfl)⟩) hHeld ?_
                      simp only [Act.put, List.setIfInBounds_toArray, List.set_cons_zero, List.set_cons_succ]
                      refine wpAnyH_take (i := 4) (oi := _) (v := _) (by simp only [List.getElem?_toArray, List.getElem?_cons_succ, List.getElem?_cons_zero]; rfl) (by kernel_rfl) (by kernel_rfl) (by kernel_rfl) (by exact fun _ _ _ h => h) (Or.inl ⟨by rfl, by intro w' hSw; (try dsimp only at hSw); first | (go_simp; done) | (go_simp; with_reducible rfl)⟩) hHeld ?_
                      simp only [Act.put, List.setIfInBounds_toArray, List.set_cons_zero, List.set_cons_succ]
                      refine wpAnyH_take (i := 5) (oi := _) (v := _) (by simp only [List.getElem?_toArray, List.getElem?_cons_succ, List.getElem?_cons_zero]; rfl) (by kernel_rfl) (by kernel_rfl) (by kernel_rfl) (by exact fun _ _ _ h => h) (Or.inl ⟨by rfl, by intro w' hSw; (try dsimp only at hSw); first | (go_simp; done) | (go_simp; with_reducible rfl)⟩) hHeld ?_
                      simp only [Act.put, List.setIfInBounds_toArray, List.set_cons_zero, List.set_cons_succ]
                      refine wpAnyH_take (i := 6) (oi := _) (v := _) (by simp only [List.getElem?_toArray, List.getElem?_cons_succ, List.getElem?_cons_zero]; rfl) (by kernel_rfl) (by kernel_rfl) (by kernel_rfl) (by exact fun _ _ _ h => h) (Or.inl ⟨by rfl, by intro w' hSw; (try dsimp only at hSw); first | (go_simp; done) | (go_simp; with_reducible rfl)⟩) hHeld ?_
                      simp only [Act.put, List.setIfInBounds_toArray, List.set_cons_zero, List.set_cons_succ]
                      refine wpAnyH_ready (rs := [1]) (by kernel_rfl) (by simp) ?_
                      refine AllReadyH.cons rfl (fun K hK => ?_) AllReadyH.nil
                      go_simp
                      refine hK.out _ _ ((World.cell?_of_block (Below.heap_alloc wE (Obj.cells #[] 3) z (lt_of_heap HZE.out))).trans czE) (fun hHeld => ?_)
                      clear hK K
                      refine wpAnyH_ready (rs := [7]) (by kernel_rfl) (by simp) ?_
                      refine AllReadyH.cons (o := _) (by simp only [List.getElem?_toArray, List.getElem?_cons_succ, List.getElem?_cons_zero]; rfl) (fun K hK => ?_) AllReadyH.nil
                      refine wpH_append (by rfl) rfl rfl rfl HRUN.out ?_
                      refine hK.out _ _ ((cell_of_heap HZK.out 0 _ rfl)) (fun hHeld => ?_)
                      clear hK K
                      simp only [Act.put, List.setIfInBounds_toArray, List.set_cons_zero, List.set_cons_succ]
                      refine wpAnyH_ready (rs := [8]) (by kernel_rfl) (by simp) ?_
                      refine AllReadyH.cons rfl (fun K hK => ?_) AllReadyH.nil
                      go_simp
                      go_wp2_with fail
                      refine (x_crash _ KL HXK.out HOE.out HO7.out HQL.out HH3K.out).mono ?_
                      rintro r wG ⟨⟨uG, rfl⟩, hXG, hTG⟩
                      have HXG : Hid (LivesX H3 wG b (crashF dE KL)) := hXG
                      have HTG3 : Hid (TurnX H3 wK wG) := hTG
                      refine hK.out _ _ (cell_of_heap (TurnX.at hTG HZK.out (HH3.out.1 _ HHz.out)) 0 _ rfl) (fun hHeld => ?_)
                      clear hK K hXG hTG
                      refine wpAnyH_done (by kernel_rfl) ?_ _
                      clear hHeld czE
                      have HTG : Hid (TurnX H w3 wG) := TurnX.trans HTE.out (TurnX.trans (Turn.of_below HB7.out) (HTG3.out.mono (fun q hq g => hq (HH3.out.1 q g))))
                      have HAG : Hid (wG.heap[wa]? = some (.cells (rowC A 4) 46 (0, 0))) := TurnX.at HTG3.out ((HB7.out.block _ (lt_of_heap HAE.out)).trans HAE.out) HH3.out.2.1
                      have HLG : Hid (wG.heap[wb]? = some (.cells (flagC f) 47 (0, 0))) := TurnX.at HTG3.out ((HB7.out.block _ (lt_of_heap HLE.out)).trans HLE.out) HH3.out.2.2
                      have hzG : wG.heap[z]? = some (.cells #[.pointer (some ⟨b, 0, none⟩)] 27 (0, 0)) := TurnX.at HTG.out HZ3.out HHz.out
                      have czG := cell_of_heap hzG 0 _ rfl
                      have HH3G : Hid (∀ q, H3 q → q < wG.heap.size) := fun q g => Nat.lt_of_lt_of_le (HH3K.out q g) HTG3.out.size
                      clear hzG
                      go_wp2_with fail
                      refine (x_boot HXG.out HH3G.out).mono ?_
                      rintro e wJ ⟨⟨uJ, rfl⟩, hXJ, hTJ⟩
                      have hLa := HFE.out.last KL
                      obtain ⟨dJ, hdJ⟩ : ∃ dJ, bootF (crashF dE KL) = dJ := ⟨_, rfl⟩
                      rw [hdJ] at hLa hXJ
                      have HXJ : Hid (LivesX H3 wJ b dJ) := hXJ
                      have HOJ : Hid (Ok dJ) := hLa.1.ok (by decide)
                      have HWJ : Hid (dJ.waiting = []) := hLa.2.2
                      have HLJ : Hid (∀ s : Nat, s < 4 → lookN dJ s = 0 ∧ (f s = false → lookT dJ s = A s)) := fun s hs => ⟨(hLa.1.look hLa.2.1 s hs).1, fun hf => (hLa.1.look hLa.2.1 s hs).2 (by show ¬ (f ((s : Nat) : Int).toNat = true); rw [Int.toNat_natCast, hf]; decide)⟩
                      have HTJ : Hid (TurnX H w3 wJ) := TurnX.trans HTG.out (hTJ.mono (fun q hq g => hq (HH3.out.1 q g)))
                      have HAJ : Hid (wJ.heap[wa]? = some (.cells (rowC A 4) 46 (0, 0))) := TurnX.at hTJ HAG.out HH3.out.2.1
                      have HFJ : Hid (wJ.heap[wb]? = some (.cells (flagC f) 47 (0, 0))) := TurnX.at hTJ HLG.out HH3.out.2.2
                      clear hLa hdJ hXJ hTJ czG
                      go_wp2
                      go_loopw [19] (fun iv wr => ∃ r : Nat, r ≤ 4 ∧ iv = .int .i64 r ∧ LivesX H3 wr b dJ ∧ wr.heap[wa]? = some (.cells (rowC A 4) 46 (0, 0)) ∧ wr.heap[wb]? = some (.cells (flagC f) 47 (0, 0)) ∧ TurnX H w3 wr) (fun i _ => 4 - (intOf i).toNat)
                      case atStart => exact ⟨0, by decide, rfl, HXJ.out, HAJ.out, HFJ.out, HTJ.out⟩
                      case round =>
                        clear HXJ HAJ HFJ HTJ
                        obtain ⟨r, hr4, rfl, hX, hA, hFl, hT⟩ := hrel
                        obtain ⟨wP, rfl⟩ : ∃ wP, wP = wr := ⟨_, rfl⟩
                        have HXP : Hid (LivesX H3 wP b dJ) := hX
                        have HAP : Hid (wP.heap[wa]? = some (.cells (rowC A 4) 46 (0, 0))) := hA
                        have HFP : Hid (wP.heap[wb]? = some (.cells (flagC f) 47 (0, 0))) := hFl
                        have HTP : Hid (TurnX H w3 wP) := hT
                        have czP := cell_of_heap (TurnX.at hT HZ3.out HHz.out) 0 _ rfl
                        clear hX hA hFl hT
                        by_cases hr : r < 4
                        · have hL := HLJ.out r hr
                          have HL : Hid (lookN dJ (r : Int) = 0 ∧ (f r = false → lookT dJ (r : Int) = A (r : Int))) := hL
                          clear hL
                          go_wp2_with fail
                          refine (x_look (r : Int) HXP.out HOJ.out).mono ?_
                          rintro e wQ ⟨rfl, hXQ, hbQ⟩
                          rw [HL.out.1, errV_0]
                          have haQ : wQ.heap[wa]? = some (.cells (rowC A 4) 46 (0, 0)) := (hbQ.block _ (lt_of_heap HAP.out)).trans HAP.out
                          have hfQ : wQ.heap[wb]? = some (.cells (flagC f) 47 (0, 0)) := (hbQ.block _ (lt_of_heap HFP.out)).trans HFP.out
                          have HXQ : Hid (LivesX H3 wQ b dJ) := hXQ
                          have HAQ : Hid (wQ.heap[wa]? = some (.cells (rowC A 4) 46 (0, 0))) := haQ
                          have HFQ : Hid (wQ.heap[wb]? = some (.cells (flagC f) 47 (0, 0))) := hfQ
                          have HTQ : Hid (TurnX H w3 wQ) := TurnX.trans HTP.out (Turn.of_below hbQ)
                          have ca : wQ.cell? ⟨wa, r, none⟩ = some (.string (A (r : Int))) := cell_of_heap haQ _ _ (by simp [rowC, hr])
                          have cf : wQ.cell? ⟨wb, r, none⟩ = some (.bool (f r)) := cell_of_heap hfQ _ _ (flag_get f r hr)
                          clear hXQ hbQ haQ hfQ czP
                          cases hfr : f r
                          · rw [HL.out.2 hfr]
                            rw [hfr] at cf
                            generalize A (r : Int) = tx at ca ⊢
                            go_wp2
                            go_roundw
                            case rel => exact ⟨r + 1, by omega, by go_num, HXQ.out, HAQ.out, HFQ.out, HTQ.out⟩
                            case measure => simp [intOf]; omega
                          · rw [hfr] at cf
                            generalize lookT dJ (r : Int) = tx
                            go_wp2
                            go_roundw
                            case rel => exact ⟨r + 1, by omega, by go_num, HXQ.out, HAQ.out, HFQ.out, HTQ.out⟩
                            case measure => simp [intOf]; omega
                        · have hrb : ¬ ((r : Int) < 4) := by omega
                          clear hr
                          go_wp2_with fail
                          refine (x_pending HXP.out HOJ.out).mono ?_
                          rintro e wR ⟨⟨qa, qc, rfl⟩, hXR, hbR⟩
                          rw [HWJ.out]
                          rw [show ([] : List Cmd).length = 0 from rfl]
                          have HEND : Hid (Below w.heap.size w wR) := (HBW.out _ HTP.out).trans (hbR.mono (HBW.out _ HTP.out).size)
                          clear hXR hbR
                          go_wp2
                          go_ret
                          exact ⟨rfl, HEND.out⟩

theorem nvmeLasts_calls {H : Type} {enc : TypeId × Value → H} {sp : Nat → Bool} {held : Bool} {d0 d1 d2 : DataW H} {p0 p1 p2 : List MemPlace} (a0 : Option Addr) (len0 cap0 : Nat) (a1 : Option Addr) (len1 cap1 : Nat) (a2 : Option Addr) (len2 cap2 : Nat) (w : World)
    (h0 : DataW.Trod enc Try.prog w 0 sp held 22 (.slice a0 len0 cap0) d0 p0) (h1 : DataW.Trod enc Try.prog w 0 sp held 22 (.slice a1 len1 cap1) d1 p1) (h2 : DataW.Trod enc Try.prog w 0 sp held 23 (.slice a2 len2 cap2) d2 p2) :
    Calls Try.prog 4 #[.slice a0 len0 cap0, .slice a1 len1 cap1, .slice a2 len2 cap2] w fun e w' => e = .returned (.bool true) ∧ Below w.heap.size w w' := by
  obtain ⟨L, c0, _⟩ := acts_of_trod h0
  obtain ⟨M, c1, _⟩ := acts_of_trod h1
  obtain ⟨L2, c2, _, l2, k2⟩ := ints_of_trod h2
  exact nvmeLasts_walk a0 len0 cap0 L a1 len1 cap1 M a2 len2 cap2 L2 w c0 c1 c2 l2 k2

end Go.Proofs.Ytkfphmhnaelflaa.Nv
