/-
  The document's set of a sector. No condition.
-/
import Derived.Test.YtkflhakgfpiiaaaDoorBtPlays
namespace Go.Proofs.YtkflhakgfpiiaaaDoor.Bt
open Go.ChangeShapes Go.WideShapes Go.ChangeAt Go.RowKit Go.Proofs.Fa
open Go.Proofs.YtkflhakgfpiiaaaDoor.Mk (openF refopen_any)

variable {w : World}
set_option maxRecDepth 100000
set_option maxHeartbeats 1000000

/-- The numbers that are taken, as far as so many are read. -/
def upTo (B : Nat → Nat) (k : Nat) : Nat → Bool := fun i => decide (i < k) && tk B i
theorem upTo_zero (B : Nat → Nat) (i : Nat) : upTo B 0 i = false := by unfold upTo; rw [decide_eq_false (Nat.not_lt_zero _)]; rfl
theorem upTo_no {B : Nat → Nat} {k : Nat} (h : tk B k = false) (i : Nat) : upTo B k i = upTo B (k + 1) i := by
  unfold upTo
  by_cases e : i = k
  · subst e; rw [h, Bool.and_false, Bool.and_false]
  · rw [show decide (i < k + 1) = decide (i < k) from decide_eq_decide.2 (by omega)]
theorem upTo_yes {B : Nat → Nat} {k : Nat} (h : tk B k = true) (i : Nat) : (if i = k then true else upTo B k i) = upTo B (k + 1) i := by
  unfold upTo
  by_cases e : i = k
  · subst e; rw [if_pos rfl, h, decide_eq_true (by omega)]; rfl
  · rw [if_neg e, show decide (i < k + 1) = decide (i < k) from decide_eq_decide.2 (by omega)]
theorem upTo_all (B : Nat → Nat) {n k : Nat} (h : n ≤ k) (i : Nat) (hi : i < n) : upTo B k i = tk B i := by
  unfold upTo; rw [decide_eq_true (by omega)]; rfl

theorem refget_arg (s : ByteArray) (n : Int) (h : (decide (1 ≤ n) && decide (n ≤ 4000)) = false) :
    Calls Tryd.prog 22 #[.string s, .int .i64 n] w fun r w' => r = .returned (.tuple #[.slice none 0 0, .int .i64 1]) ∧ w' = w := by
  simp only [Bool.and_eq_false_iff, decide_eq_false_iff_not] at h
  by_cases h1 : n < 1
  · clear h
    go_enter Tryd.func22, Tryd.ntmps22
    go_wp2
    go_ret2
    exact ⟨rfl, rfl⟩
  · have h2 : 4000 < n := by omega
    clear h
    go_enter Tryd.func22, Tryd.ntmps22
    go_wp2
    go_ret2
    exact ⟨rfl, rfl⟩

theorem refget_open (s : ByteArray) (n : Nat) (e : Int) (h1 : 1 ≤ n) (h2 : n ≤ 4000) (ho : (openF 5 s).2 = e) (he : e ≠ 0) :
    Calls Tryd.prog 22 #[.string s, .int .i64 n] w fun r w' => r = .returned (.tuple #[.slice none 0 0, .int .i64 e]) ∧ Below w.heap.size w w' := by
  have hO := refopen_any 5 s w
  rw [ho] at hO
  generalize (openF 5 s).1 = bd at *
  clear ho
  have heb : (e == 0) = false := by simpa using he
  go_enter Tryd.func22, Tryd.ntmps22
  go_wp2_with fail
  refine hO.mono ?_
  rintro r w1 ⟨rfl, hb⟩
  clear hO
  go_wp2
  go_ret2
  exact ⟨rfl, hb⟩

/-- What the document's Get answers of a sound sector. -/
def RGetAt (n : Nat) (B : Nat → Nat) (w : World) (r : Ending) (w' : World) : Prop :=
  (beyB B n = true → r = .returned (.tuple #[.slice none 0 0, .int .i64 4])) ∧ (beyB B n = false → ∃ v, r = .returned (.tuple #[v, .int .i64 0]) ∧ RowB w' w.heap.size v n (tk B)) ∧ Below w.heap.size w w'

theorem refget_yes (s body : ByteArray) (n : Nat) (h1 : 1 ≤ n) (h2 : n ≤ 4000) (ho : openF 5 s = (body, 0)) (hbs : body.size = 504) :
    Calls Tryd.prog 22 #[.string s, .int .i64 n] w fun r w' => RGetAt n (strB body) w r w' := by
  have hO := refopen_any 5 s w
  rw [ho] at hO
  dsimp only at hO
  clear ho
  go_enter Tryd.func22, Tryd.ntmps22
  go_wp2_with fail
  refine hO.mono ?_
  rintro r w1 ⟨rfl, hb1⟩
  clear hO
  have HB1 : Hid (Below w.heap.size w w1) := hb1
  clear hb1
  have hmk := make_set n (by omega) w1
  have hrow := made_row w1 n (by omega)
  generalize hmc : madeCells (Value.bool false).cells n = mc at *
  clear hmc
  go_wp2_with fail
  have hP0 : RowB (w1.alloc (Obj.cells mc 4)) w.heap.size (.slice (some ⟨w1.heap.size, 0, none⟩) n n) n (upTo (strB body) 0) := (RowB.lower hrow HB1.out.size).congr (fun i _ => (upTo_zero _ i).symm)
  have HB2 : Hid (Below w.heap.size w (w1.alloc (Obj.cells mc 4))) := HB1.out.alloc HB1.out.size _
  have HP0 : Hid (RowB (w1.alloc (Obj.cells mc 4)) w.heap.size (.slice (some ⟨w1.heap.size, 0, none⟩) n n) n (upTo (strB body) 0)) := hP0
  have HG : Hid (w.heap.size ≤ w1.heap.size) := HB1.out.size
  clear hP0 hrow hmk HB1
  generalize w1.alloc (Obj.cells mc 4) = w2 at *
  generalize w1.heap.size = g at *
  go_loopw [9] (fun j wr => ∃ k : Nat, k ≤ 4032 ∧ j = .int .i64 k ∧ RowB wr w.heap.size (.slice (some ⟨g, 0, none⟩) n n) n (upTo (strB body) k) ∧ (∀ i, n ≤ i → i < k → tk (strB body) i = false) ∧ Below w.heap.size w wr) (fun j _ => 4032 - (intOf j).toNat)
  case atStart => exact ⟨0, Nat.zero_le _, rfl, HP0.out, fun i _ h => absurd h (Nat.not_lt_zero _), HB2.out⟩
  case round =>
    obtain ⟨k, hk, rfl, hr, hall, hb⟩ := hrel
    have HR : Hid (RowB wr w.heap.size (.slice (some ⟨g, 0, none⟩) n n) n (upTo (strB body) k)) := hr
    have HA : Hid (∀ i, n ≤ i → i < k → tk (strB body) i = false) := hall
    have HB : Hid (Below w.heap.size w wr) := hb
    clear hr hall hb HP0 HB2
    by_cases hlt : k < 4032
    · have hlt' : ((k : Nat) : Int) < 4032 := by omega
      have hrem : ((k : Nat) : Int).tmod 8 = ((k % 8 : Nat) : Int) := by rw [Int.tmod_eq_emod_of_nonneg (by omega)]; omega
      have hdiv : ((k : Nat) : Int).tdiv 8 = ((k / 8 : Nat) : Int) := by rw [Int.tdiv_eq_ediv_of_nonneg (by omega)]; omega
      have hk8 : k / 8 < body.size := by omega
      have hy : (body[k / 8]'hk8).toNat = strB body (k / 8) := by
        unfold strB
        have h : k / 8 < body.data.toList.length := by rw [Array.length_toList]; exact hk8
        rw [List.getElem?_eq_getElem h]
        rfl
      have hylt := strB_lt body (k / 8)
      have htk : tk (strB body) k = decide (strB body (k / 8) / 2 ^ (k % 8) % 2 = 1) := Nat.testBit_eq_decide_div_mod_eq
      have HTK : Hid (tk (strB body) k = decide (strB body (k / 8) / 2 ^ (k % 8) % 2 = 1)) := htk
      clear htk
      go_wp2_with fail
      clear hy
      generalize strB body (k / 8) = y at *
      try rw [show wrap64 ((y : Nat) : Int) = ((y : Nat) : Int) by unfold wrap64; omega]
      go_loop [10, 11] (fun d j => ∃ m z : Nat, m ≤ k % 8 ∧ j = .int .i64 m ∧ d = .int .i64 z ∧ z = y / 2 ^ m) (fun _ j => k % 8 - (intOf j).toNat)
      case atStart => exact ⟨0, y, Nat.zero_le _, rfl, rfl, by rw [Nat.pow_zero, Nat.div_one]⟩
      case round =>
        obtain ⟨m, z, hm, rfl, rfl, hz⟩ := hrel
        have HZ : Hid (z = y / 2 ^ m) := hz
        have hz256 : z < 256 := by rw [hz]; exact Nat.lt_of_le_of_lt (Nat.div_le_self _ _) hylt
        clear hz
        have hk88 : k % 8 < 8 := Nat.mod_lt _ (by decide)
        by_cases hlm : m < k % 8
        · have hlm' : ((m : Nat) : Int) < ((k % 8 : Nat) : Int) := by omega
          have hz2 : ((z : Nat) : Int).tdiv 2 = ((z / 2 : Nat) : Int) := by rw [Int.tdiv_eq_ediv_of_nonneg (by omega)]; omega
          go_wp2
          go_round
          case rel => exact ⟨m + 1, z / 2, by omega, by go_num, by go_num, by rw [HZ.out, Nat.pow_succ, Nat.div_div_eq_div_mul]⟩
          case measure => simp [intOf]; omega
        · obtain rfl : m = k % 8 := by omega
          have hz2 : ((z : Nat) : Int).tmod 2 = ((z % 2 : Nat) : Int) := by rw [Int.tmod_eq_emod_of_nonneg (by omega)]; omega
          rw [← HZ.out] at HTK
          clear HZ
          by_cases ho : z % 2 = 1
          · have HT : Hid (tk (strB body) k = true) := HTK.out.trans (decide_eq_true ho)
            have hob : (((z % 2 : Nat) : Int) == 1) = true := by rw [ho]; rfl
            have hob' : ((z : Nat) : Int) % 2 = 1 := by omega
            clear HTK
            by_cases hkn : n ≤ k
            · have HBE : Hid (beyB (strB body) n = true) := beyB_yes hkn hlt HT.out
              have hkn' : ((n : Nat) : Int) ≤ ((k : Nat) : Int) := by omega
              go_wp2
              go_ret2
              exact ⟨fun _ => rfl, fun h => absurd (HBE.out.symm.trans h) (by decide), HB.out⟩
            · have hkn' : ¬ ((n : Nat) : Int) ≤ ((k : Nat) : Int) := by omega
              have hkn2 : ((k : Nat) : Int) < ((n : Nat) : Int) := by omega
              have e0 := HR.out.bool k (by omega)
              have f0 : wr.frozen? ⟨g, k, none⟩ = false := World.ownsRow.frozenAt HR.out k
              have HST := (World.ownsRow.stored HR.out k (.bool true)).1
              rw [bcells_set] at HST
              have HN : Hid (RowB (wr.setCell ⟨g, k, none⟩ (.bool true)) w.heap.size (.slice (some ⟨g, 0, none⟩) n n) n (upTo (strB body) (k + 1))) := RowB.congr (f := fun i => if i = k then true else upTo (strB body) k i) HST (fun i _ => upTo_yes HT.out i)
              have HNA : Hid (∀ i, n ≤ i → i < k + 1 → tk (strB body) i = false) := fun i h1 h2 => HA.out i h1 (by omega)
              clear HST
              generalize upTo (strB body) k k = t at *
              go_wp2
              go_roundw
              case rel => exact ⟨k + 1, by omega, by go_num, HN.out, HNA.out, HB.out.setCell (p := ⟨g, k, none⟩) HG.out _⟩
              case measure => simp [intOf]; omega
          · have HT : Hid (tk (strB body) k = false) := HTK.out.trans (decide_eq_false ho)
            have hob : (((z % 2 : Nat) : Int) == 1) = false := by simp; omega
            have hob' : ((z : Nat) : Int) % 2 = 0 := by omega
            have HN : Hid (RowB wr w.heap.size (.slice (some ⟨g, 0, none⟩) n n) n (upTo (strB body) (k + 1))) := HR.out.congr (fun i _ => upTo_no HT.out i)
            have HNA : Hid (∀ i, n ≤ i → i < k + 1 → tk (strB body) i = false) := fun i h1 h2 => by
              by_cases e : i = k
              · rw [e]; exact HT.out
              · exact HA.out i h1 (by omega)
            clear HTK
            go_wp2
            go_roundw
            case rel => exact ⟨k + 1, by omega, by go_num, HN.out, HNA.out, HB.out⟩
            case measure => simp [intOf]; omega
    · obtain rfl : k = 4032 := by omega
      have HBE : Hid (beyB (strB body) n = false) := beyB_no HA.out
      have HRR : Hid (RowB wr w.heap.size (.slice (some ⟨g, 0, none⟩) n n) n (tk (strB body))) := HR.out.congr (fun i hi => upTo_all _ (by omega) i hi)
      go_wp2
      go_ret2
      exact ⟨fun h => absurd (HBE.out.symm.trans h) (by decide), fun _ => ⟨_, rfl, HRR.out⟩, HB.out⟩

end Go.Proofs.YtkflhakgfpiiaaaDoor.Bt
