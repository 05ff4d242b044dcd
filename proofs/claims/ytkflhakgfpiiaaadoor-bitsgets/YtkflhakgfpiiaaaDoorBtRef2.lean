/-
  The document's set of layer 7: Turned, Run; whether a set is the same. No condition.
-/
import Derived.Test.YtkflhakgfpiiaaaDoorBtRef
namespace Go.Proofs.YtkflhakgfpiiaaaDoor.Bt
open Go.ChangeShapes Go.WideShapes Go.ChangeAt Go.RowKit Go.Proofs.Fa

theorem info_bool : (Tryd.prog.info? 4).map (fun i => (i.zero, i.size, i.bytes)) = some (some (.bool false), 1, 1) := by kernel_rfl
theorem info_parts {o : Option TypeInfo} {z : Option Value} {s b : Nat} (h : o.map (fun i => (i.zero, i.size, i.bytes)) = some (z, s, b)) : ∃ i, o = some i ∧ i.zero = z ∧ i.size = s ∧ i.bytes = b := by
  cases o with
  | none => cases h
  | some i => simp at h; exact ⟨i, rfl, h.1, h.2.1, h.2.2⟩

variable {w : World} {B : Nat}
set_option maxRecDepth 100000
set_option maxHeartbeats 1000000

/-- Numbers from one on the other way. -/
def turnF (f : Nat → Bool) (i m : Nat) : Nat → Bool := fun j => if i ≤ j ∧ j < i + m then !f j else f j
theorem turnF_tk (B : Nat → Nat) (i m : Nat) : turnF (tk B) i m = tk (flipsB B i m) := by funext j; rw [tk_flips]; rfl

theorem turned_any (v : Value) (n : Nat) (f : Nat → Bool) (i m : Nat) (hr : RowB w B v n f) (hn : n ≤ 1000000) (him : i + m ≤ n) (hm : 1 ≤ m) :
    Calls Tryd.prog 13 #[v, .int .i64 i, .int .i64 m] w fun r w' => ∃ v', r = .returned v' ∧ RowB w' w.heap.size v' n (turnF f i m) ∧ Below w.heap.size w w' := by
  obtain ⟨i0, hi, hz0, hz1, hz2⟩ := info_parts info_bool
  obtain ⟨g, cap, rfl⟩ := row_some' hr (by omega)
  have hsrc := World.ownsRow.cells (g := g) hr rfl
  have hglt : g < w.heap.size := row_lt' hr g rfl
  have HR : Hid (RowB w B (.slice (some ⟨g, 0, none⟩) n cap) n f) := hr
  clear hr
  go_enter Tryd.func13, Tryd.ntmps13
  go_wp2_with (
    at_builtin
    refine wpList_append_near _ rfl _ _ 30 rfl w.heap.size 4 i0 _ 1 1 Tryd.underlying30 hi hz0 hz1 hz2 rfl (by decide) _ 0 [] rfl (World.ownsRow_lit w #[] 0 (Nat.le_refl _) (by decide) rfl) ⟨g, 0, none⟩ n cap (bcells n f) rfl (by rw [bcells_length]; omega) (fun j u hu => (World.cell?_of_block (Below.heap_alloc _ _ _ (by simpa [Addr.add_lit] using hglt))).trans (hsrc j u hu)) (bcells_one n f) (by unfold maxLen; omega) (by omega) (by simp) ?_
    intro v1 w1 hown1 hgrow hnear
    rw [Nat.zero_add, List.nil_append] at hown1
    obtain ⟨g1, cap1, hv1⟩ := row_some' hown1 (by omega)
    subst hv1
    have HO1 : Hid (RowB w1 w.heap.size (.slice (some ⟨g1, 0, none⟩) n cap1) n f) := hown1
    have HB1 : Hid (Below w.heap.size w w1) := ((Below.refl _ w).alloc (Nat.le_refl _) _).grown hgrow (by simp) (fun k e => by cases e; exact Nat.le_refl _)
    clear hown1 hgrow hnear hsrc)
  go_loopw [8] (fun j wr => ∃ k : Nat, k ≤ m ∧ j = .int .i64 ((i : Int) + (k : Int)) ∧ RowB wr w.heap.size (.slice (some ⟨g1, 0, none⟩) n cap1) n (turnF f i k) ∧ Below w.heap.size w wr) (fun j _ => i + m - (intOf j).toNat)
  case atStart =>
    refine ⟨0, Nat.zero_le _, by simp, ?_, HB1.out⟩
    have e : bcells n (turnF f i 0) = bcells n f := bcells_congr (fun j _ => by unfold turnF; rw [if_neg (by omega)])
    unfold RowB; rw [e]; exact HO1.out
  case round =>
    obtain ⟨k, hk, rfl, hrow, hb⟩ := hrel
    have HO : Hid (RowB wr w.heap.size (.slice (some ⟨g1, 0, none⟩) n cap1) n (turnF f i k)) := hrow
    have HB : Hid (Below w.heap.size w wr) := hb
    clear hrow hb HO1 HB1
    by_cases hlt : k < m
    · have e0 := HO.out.bool (i + k) (by omega)
      have f0 : wr.frozen? ⟨g1, i + k, none⟩ = false := World.ownsRow.frozenAt HO.out (i + k)
      have hge : w.heap.size ≤ g1 := row_ge' HO.out g1 rfl
      have hkn : ((i : Int) + (k : Int)) < (n : Int) := by omega
      have hkq : ((i : Int) + (k : Int)) < (i : Int) + (m : Int) := by omega
      have HST := (World.ownsRow.stored HO.out (i + k) (.bool (!turnF f i k (i + k)))).1
      have HN : Hid (RowB (wr.setCell ⟨g1, i + k, none⟩ (.bool (!turnF f i k (i + k)))) w.heap.size (.slice (some ⟨g1, 0, none⟩) n cap1) n (turnF f i (k + 1))) := by
        show World.ownsRow _ _ _ _ _ _ _
        rw [bcells_set] at HST
        have e : bcells n (turnF f i (k + 1)) = bcells n (fun j => if j = i + k then !turnF f i k (i + k) else turnF f i k j) := bcells_congr (fun j _ => by
          unfold turnF
          by_cases h1 : j = i + k
          · subst h1
            rw [if_pos (by omega), if_pos rfl, if_neg (by omega)]
          · rw [if_neg h1]
            by_cases h2 : i ≤ j ∧ j < i + k
            · rw [if_pos h2, if_pos (by omega)]
            · rw [if_neg h2, if_neg (by omega)])
        rw [e]; exact HST
      clear HST
      generalize turnF f i k (i + k) = t at *
      go_wp2
      go_roundw
      case rel => exact ⟨k + 1, by omega, by go_num, HN.out, HB.out.setCell (p := ⟨g1, i + k, none⟩) (by show w.heap.size ≤ g1; omega) _⟩
      case measure => simp [intOf]; omega
    · obtain rfl : k = m := by omega
      have hkq : ¬ ((i : Int) + (k : Int)) < (i : Int) + (k : Int) := by omega
      go_wp2
      go_ret
      exact ⟨_, rfl, HO.out, HB.out⟩

/-- The first free run, from a number on; -1. -/
def rrunF (n : Nat) (f : Nat → Bool) (m fr : Int) : Nat → Nat → Int
  | 0, _ => -1
  | d + 1, i => if fr ≤ i ∧ mayF n f i m false = 0 then i else rrunF n f m fr d (i + 1)
/-- The document's answer. -/
def rrunG (n : Nat) (f : Nat → Bool) (m fr : Int) : Int := if m < 1 then -1 else rrunF n f m fr n 0

theorem refrun_any (v : Value) (n : Nat) (f : Nat → Bool) (m fr : Int) (hr : RowB w B v n f) (hn : n ≤ 1000000) :
    Calls Tryd.prog 15 #[v, .int .i64 m, .int .i64 fr] w fun r w' => r = .returned (.int .i64 (rrunG n f m fr)) ∧ w' = w := by
  obtain ⟨a, cap, rfl, _⟩ := row_slice' hr
  have HR : Hid (RowB w B (.slice a n cap) n f) := hr
  clear hr
  by_cases hm : m < 1
  · have HM : Hid (rrunG n f m fr = -1) := by show _ = _; unfold rrunG; rw [if_pos hm]
    go_enter Tryd.func15, Tryd.ntmps15
    go_wp2_with fail
    go_loop [7] (fun j => j = .int .i64 0) (fun _ => 0)
    case atStart => rfl
    case round =>
      subst hrel
      by_cases h0 : (0 : Int) < (n : Int)
      all_goals
        go_wp2
        go_ret
        exact ⟨by rw [HM.out]; rfl, rfl⟩
  · have HM : Hid (rrunG n f m fr = rrunF n f m fr n 0) := by show _ = _; unfold rrunG; rw [if_neg hm]
    have hm1 : 1 ≤ m := by omega
    go_enter Tryd.func15, Tryd.ntmps15
    go_wp2_with fail
    go_loop [7] (fun j => ∃ k : Nat, k ≤ n ∧ j = .int .i64 k ∧ rrunF n f m fr (n - k) k = rrunF n f m fr n 0) (fun j => n - (intOf j).toNat)
    case atStart => exact ⟨0, Nat.zero_le _, rfl, rfl⟩
    case round =>
      obtain ⟨k, hk, rfl, hrr⟩ := hrel
      by_cases hlt : k < n
      · rw [show n - k = (n - (k + 1)) + 1 by omega, rrunF] at hrr
        have hmay := may_any (w := w) (B := B) (.slice a n cap) n f k m false HR.out hn (by omega)
        by_cases hfr : fr ≤ (k : Int)
        · obtain ⟨q, hq⟩ : ∃ q, mayF n f k m false = q := ⟨_, rfl⟩
          rw [hq] at hmay hrr
          by_cases hq0 : q = 0
          · rw [if_pos ⟨hfr, hq0⟩] at hrr
            have HRR : Hid ((k : Int) = rrunF n f m fr n 0) := hrr
            subst hq0
            clear hrr hq
            go_wp2_with fail
            refine hmay.mono ?_
            rintro r w1 ⟨rfl, rfl⟩
            clear hmay
            go_wp2
            go_ret
            exact ⟨by rw [HM.out, ← HRR.out]; rfl, rfl⟩
          · rw [if_neg (fun h => hq0 h.2)] at hrr
            have HRR : Hid (rrunF n f m fr (n - (k + 1)) (k + 1) = rrunF n f m fr n 0) := hrr
            have hqb : (q == 0) = false := by simpa using hq0
            clear hrr hq
            go_wp2_with fail
            refine hmay.mono ?_
            rintro r w1 ⟨rfl, rfl⟩
            clear hmay
            go_wp2
            go_round
            case rel => exact ⟨k + 1, by omega, by go_num, HRR.out⟩
            case measure => simp [intOf]; omega
        · rw [if_neg (fun h => hfr h.1)] at hrr
          have HRR : Hid (rrunF n f m fr (n - (k + 1)) (k + 1) = rrunF n f m fr n 0) := hrr
          clear hrr hmay
          go_wp2
          go_round
          case rel => exact ⟨k + 1, by omega, by go_num, HRR.out⟩
          case measure => simp [intOf]; omega
      · obtain rfl : k = n := by omega
        rw [Nat.sub_self] at hrr
        have HRR : Hid (-1 = rrunF k f m fr k 0) := hrr
        clear hrr
        go_wp2
        go_ret
        exact ⟨by rw [HM.out, ← HRR.out]; rfl, rfl⟩

end Go.Proofs.YtkflhakgfpiiaaaDoor.Bt
