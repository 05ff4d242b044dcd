/-
  The document's answer whether a run may be an extent beside an inode's. Condition: extents that lie below 2048.
-/
import Derived.Test.YtadimbpgdihjlaaDoorIdMove
namespace Go.Proofs.YtadimbpgdihjlaaDoor.Id
open Go.ChangeShapes Go.WideShapes Go.ChangeAt Go.RowKit Go.Proofs.Fa

variable {w : World} {B : Nat}
set_option maxRecDepth 100000
set_option maxHeartbeats 1000000

theorem free_may {l : List Ext} (h : OkL l) (p q : Int) (h1 : 1 ≤ q) (h0 : 0 ≤ p) (_ : q ≤ 2048) (h3 : p ≤ 2048 - q) : mayF l ⟨p, q⟩ = !((secF l).any fun s => decide (p ≤ s) && decide (s < p + q)) := by
  unfold mayF
  rw [any_sec h ⟨p, q⟩ h1, (belowF_ok ⟨p, q⟩).2 ⟨h0, h1, by dsimp only; omega⟩, Bool.true_and]
theorem free_not {l : List Ext} (p q : Int) (h : ¬ (1 ≤ q ∧ 0 ≤ p ∧ q ≤ 2048 ∧ p ≤ 2048 - q)) : mayF l ⟨p, q⟩ = false := by
  unfold mayF
  rw [show belowF ⟨p, q⟩ 2048 = false by
    rw [← Bool.not_eq_true, belowF_ok]
    intro hk
    unfold Ok at hk
    dsimp only at hk
    omega, Bool.false_and]

theorem any_take (xs : List Int) (f : Int → Bool) (k : Nat) (hk : k < xs.length) : (xs.take (k + 1)).any f = ((xs.take k).any f || f xs[k]) := by
  rw [List.take_succ_eq_append_getElem hk, List.any_append]
  simp
theorem any_more (xs : List Int) (f : Int → Bool) (k : Nat) (h : (xs.take k).any f = true) : xs.any f = true := by
  rw [List.any_eq_true] at *
  obtain ⟨x, hx, hf⟩ := h
  exact ⟨x, List.mem_of_mem_take hx, hf⟩

theorem reffree_any (ver : Int) (v : Value) (l : List Ext) (p q : Int) (hr : RowR w B v l) (hn : l.length ≤ 100) (hl : OkL l) :
    Calls Tryd.prog 26 #[ino ver v, .int .i64 p, .int .i64 q] w fun r w' => r = .returned (.bool (mayF l ⟨p, q⟩)) ∧ Below w.heap.size w w' := by
  have hsec := fun w hr => sectors_any (w := w) (B := B) ver v l hr hn hl
  have hm1 := free_may hl p q
  have hm0 := free_not (l := l) p q
  have htot : (secF l).length ≤ 204800 := by
    have h1 := secF_length hl
    have h2 := sizeF_le hl
    omega
  obtain ⟨n, hln⟩ : ∃ n, l.length = n := ⟨_, rfl⟩
  obtain ⟨a, cap, hv0, hmx⟩ := row_slice hr
  rw [hln] at hv0 hmx hn
  subst hv0
  have HR : Hid (RowR w B (.slice a n cap) l) := hr
  have HL : Hid (OkL l) := hl
  clear hr hl
  simp only [ino] at *
  obtain ⟨w0, hw0⟩ : ∃ w0, w0 = w.alloc (Obj.cells #[.int .i64 ver, .slice a n cap] 29) := ⟨_, rfl⟩
  have HX0 : Hid (w0.heap[w.heap.size]? = some (.cells #[.int .i64 ver, .slice a n cap] 29 (0, 0))) := by rw [hw0]; exact heap_alloc_new _ _
  have HB0 : Hid (Below w.heap.size w w0) := by rw [hw0]; exact (Below.refl _ _).alloc (Nat.le_refl _) _
  by_cases h1 : 1 ≤ q
  · by_cases h0 : 0 ≤ p
    · by_cases h2 : q ≤ 2048
      · by_cases h3 : p ≤ 2048 - q
        · have HM : Hid (mayF l ⟨p, q⟩ = !((secF l).any fun s => decide (p ≤ s) && decide (s < p + q))) := hm1 h1 h0 h2 h3
          clear hm1 hm0
          have hS := hsec w0 (row_below HR.out HB0.out (Nat.le_refl _))
          clear hsec
          go_enter Tryd.func26, Tryd.ntmps26
          go_wp2_with fail
          rw [← hw0]
          refine hS.mono ?_
          rintro r w1 ⟨v1, rfl, hr1, hb1⟩
          obtain ⟨a1, c1, rfl, _⟩ := row_slice hr1
          have HR1 : Hid (RowI w1 w0.heap.size (.slice a1 (secF l).length c1) (secF l)) := hr1
          have HB1 : Hid (Below w.heap.size w w1) := HB0.out.trans (hb1.mono HB0.out.size)
          clear hS hr1 hb1 hw0 HX0 HB0
          generalize secF l = xs at *
          go_wp2_with fail
          go_loop [8] (fun i => ∃ k : Nat, k ≤ xs.length ∧ i = .int .i64 k ∧ ((xs.take k).any fun s => decide (p ≤ s) && decide (s < p + q)) = false) (fun i => xs.length - (intOf i).toNat)
          case atStart => exact ⟨0, Nat.zero_le _, rfl, by simp⟩
          case round =>
            obtain ⟨k, hk, rfl, hh⟩ := hrel
            have HH : Hid (((xs.take k).any fun s => decide (p ≤ s) && decide (s < p + q)) = false) := hh
            clear hh
            by_cases hlt : k < xs.length
            · obtain ⟨g, cap', he⟩ := row_some HR1.out (by omega)
              cases he
              have e0 := HR1.out.int k hlt
              have HA : Hid (((xs.take (k + 1)).any fun s => decide (p ≤ s) && decide (s < p + q)) = (((xs.take k).any fun s => decide (p ≤ s) && decide (s < p + q)) || (decide (p ≤ xs[k]) && decide (xs[k] < p + q)))) := any_take xs _ k hlt
              generalize xs[k] = y at *
              by_cases ha : p ≤ y
              · by_cases hb : y < p + q
                · have HF : Hid (mayF l ⟨p, q⟩ = false) := by
                    show _ = _
                    rw [HM.out, any_more xs _ (k + 1) (by rw [HA.out, decide_eq_true ha, decide_eq_true hb, Bool.and_true, Bool.or_true])]
                    rfl
                  clear HA HM
                  go_wp2
                  go_ret
                  exact ⟨by rw [HF.out]; rfl, HB1.out⟩
                · have HA2 : Hid (((xs.take (k + 1)).any fun s => decide (p ≤ s) && decide (s < p + q)) = false) := by show _ = _; rw [HA.out, HH.out, decide_eq_false hb, Bool.and_false]; rfl
                  have hb' : decide (y < p + q) = false := decide_eq_false hb
                  clear HA
                  go_wp2
                  go_round
                  case rel => exact ⟨k + 1, by omega, by go_num, HA2.out⟩
                  case measure => simp [intOf]; omega
              · have HA2 : Hid (((xs.take (k + 1)).any fun s => decide (p ≤ s) && decide (s < p + q)) = false) := by show _ = _; rw [HA.out, HH.out, decide_eq_false ha, Bool.false_and]; rfl
                have ha' : decide (p ≤ y) = false := decide_eq_false ha
                clear HA
                go_wp2
                go_round
                case rel => exact ⟨k + 1, by omega, by go_num, HA2.out⟩
                case measure => simp [intOf]; omega
            · obtain rfl : k = xs.length := by omega
              have HF : Hid (mayF l ⟨p, q⟩ = true) := by
                show _ = _
                rw [HM.out]
                have := HH.out
                rw [List.take_length] at this
                rw [this]
                rfl
              clear HM HH
              go_wp2
              go_ret
              exact ⟨by rw [HF.out]; rfl, HB1.out⟩
        · have HM : Hid (mayF l ⟨p, q⟩ = false) := hm0 (fun h => h3 h.2.2.2)
          have h3' : 2048 - q < p := by omega
          clear hm1 hm0 hsec
          go_enter Tryd.func26, Tryd.ntmps26
          go_wp2
          go_ret
          rw [HM.out, ← hw0]
          exact ⟨rfl, HB0.out⟩
      · have HM : Hid (mayF l ⟨p, q⟩ = false) := hm0 (fun h => h2 h.2.2.1)
        have h2' : 2048 < q := by omega
        clear hm1 hm0 hsec
        go_enter Tryd.func26, Tryd.ntmps26
        go_wp2
        go_ret
        rw [HM.out, ← hw0]
        exact ⟨rfl, HB0.out⟩
    · have HM : Hid (mayF l ⟨p, q⟩ = false) := hm0 (fun h => h0 h.2.1)
      have h0' : p < 0 := by omega
      clear hm1 hm0 hsec
      go_enter Tryd.func26, Tryd.ntmps26
      go_wp2
      go_ret
      rw [HM.out, ← hw0]
      exact ⟨rfl, HB0.out⟩
  · have HM : Hid (mayF l ⟨p, q⟩ = false) := hm0 (fun h => h1 h.1)
    have h1' : q < 1 := by omega
    clear hm1 hm0 hsec
    go_enter Tryd.func26, Tryd.ntmps26
    go_wp2
    go_ret
    rw [HM.out, ← hw0]
    exact ⟨rfl, HB0.out⟩

end Go.Proofs.YtadimbpgdihjlaaDoor.Id
