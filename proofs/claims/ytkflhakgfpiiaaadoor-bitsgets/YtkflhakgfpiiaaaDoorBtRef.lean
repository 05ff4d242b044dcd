/-
  The document's set of layer 7: May, Free, Turned, Run. No condition.
-/
import Derived.Test.YtkflhakgfpiiaaaDoorBtItems
import Derived.Test.YtkflhakgfpiiaaaDoorFaApp
import Derived.Laws.MakeOwn
import Derived.Laws.OwnMore
namespace Go.Proofs.YtkflhakgfpiiaaaDoor.Bt
open Go.ChangeShapes Go.WideShapes Go.ChangeAt Go.RowKit Go.Proofs.Fa

/-- The cells of a row of bools. -/
def bcells (n : Nat) (f : Nat → Bool) : List Value := (List.range n).map (fun i => .bool (f i))
def RowB (w : World) (B : Nat) (v : Value) (n : Nat) (f : Nat → Bool) : Prop := w.ownsRow B 4 1 v n (bcells n f)
theorem bcells_length (n : Nat) (f : Nat → Bool) : (bcells n f).length = n := by simp [bcells]
theorem bcells_one (n : Nat) (f : Nat → Bool) : ∀ u ∈ bcells n f, u.oneCell' = true := by
  intro u hu
  obtain ⟨i, _, rfl⟩ := List.mem_map.1 hu
  rfl
theorem bcells_congr {n : Nat} {f g : Nat → Bool} (h : ∀ i, i < n → f i = g i) : bcells n f = bcells n g := by
  unfold bcells
  refine List.map_congr_left (fun i hi => ?_)
  rw [h i (List.mem_range.1 hi)]
theorem bcells_set (n : Nat) (f : Nat → Bool) (k : Nat) (t : Bool) : (bcells n f).set k (.bool t) = bcells n (fun i => if i = k then t else f i) := by
  apply List.ext_getElem?
  intro i
  rw [List.getElem?_set]
  unfold bcells
  by_cases h : k = i
  · subst h
    rw [if_pos rfl]
    by_cases hk : k < n
    · simp [hk]
    · simp [hk]
  · rw [if_neg h]
    by_cases hk : i < n
    · simp [hk, Ne.symm h]
    · simp [hk]
theorem row_slice' {w : World} {B e size n : Nat} {v : Value} {xs : List Value} (h : w.ownsRow B e size v n xs) : ∃ a cap, v = .slice a n cap ∧ n ≤ maxLen := by
  rcases h.2 with ⟨rfl, rfl⟩ | ⟨g', cap, cur, rfl, hb, hgg, hnc, hcm, _⟩
  · exact ⟨none, 0, rfl, Nat.zero_le _⟩
  · exact ⟨_, _, rfl, by omega⟩
theorem row_some' {w : World} {B e size n : Nat} {v : Value} {xs : List Value} (h : w.ownsRow B e size v n xs) (hn : 0 < n) : ∃ g cap, v = .slice (some ⟨g, 0, none⟩) n cap := by
  rcases h.2 with ⟨rfl, rfl⟩ | ⟨g', cap, cur, rfl, hb, hgg, hnc, hcm, _⟩
  · omega
  · exact ⟨_, _, rfl⟩
theorem row_below' {w w' : World} {B C e size n : Nat} {v : Value} {xs : List Value} (h : w.ownsRow B e size v n xs) (hb : Below C w w') (hC : w.heap.size ≤ C) : w'.ownsRow B e size v n xs := by
  refine ⟨h.1, ?_⟩
  rcases h.2 with hn | ⟨g, cap, cur, rfl, hb', hg, rest⟩
  · exact .inl hn
  · exact .inr ⟨g, cap, cur, rfl, hb', (hb.block g (Nat.lt_of_lt_of_le (lt_of_heap hg) hC)).trans hg, rest⟩
theorem row_ge' {w : World} {B e size n : Nat} {v : Value} {xs : List Value} (h : w.ownsRow B e size v n xs) (k : Nat) (hk : v.ownBlock = some k) : B ≤ k := by
  rcases h.2 with ⟨rfl, _⟩ | ⟨g, cap, cur, rfl, hb, _⟩
  · cases hk
  · cases hk; exact hb
theorem row_lt' {w : World} {B e size n : Nat} {v : Value} {xs : List Value} (h : w.ownsRow B e size v n xs) (g : Nat) (hg : v.ownBlock = some g) : g < w.heap.size := by
  rcases h.2 with ⟨rfl, _⟩ | ⟨g', cap, cur, rfl, hb, hgg, _⟩
  · cases hg
  · cases hg; exact lt_of_heap hgg
theorem RowB.bool {w : World} {B g n cap : Nat} {f : Nat → Bool} (h : RowB w B (.slice (some ⟨g, 0, none⟩) n cap) n f) (k : Nat) (hk : k < n) : w.cell? ⟨g, k, none⟩ = some (.bool (f k)) := by
  have hc := World.ownsRow.cells (g := g) h rfl
  have e0 := hc k (.bool (f k)) (by simp [bcells, hk])
  simp only [Addr.add_lit, Nat.zero_add] at e0
  exact e0

variable {w : World} {B : Nat}
set_option maxRecDepth 100000
set_option maxHeartbeats 1000000

/-- What the document says of a run. -/
def mayF (n : Nat) (f : Nat → Bool) (i m : Int) (t : Bool) : Int := if insideF n i m = true then (if ∀ x, x < m.toNat → f (i.toNat + x) = t then 0 else if t = true then 8 else 9) else 1
theorem mayF_turn (n : Nat) (B : Nat → Nat) (i m : Int) (t : Bool) : mayF n (tk B) i m t = turnE n B i m t (if t = true then 8 else 9) := rfl

theorem may_any (v : Value) (n : Nat) (f : Nat → Bool) (i m : Int) (t : Bool) (hr : RowB w B v n f) (hn : n ≤ 1000000) (hi : i ≤ 9223372036854775807) :
    Calls Tryd.prog 10 #[v, .int .i64 i, .int .i64 m, .bool t] w fun r w' => r = .returned (.int .i64 (mayF n f i m t)) ∧ w' = w := by
  obtain ⟨a, cap, rfl, _⟩ := row_slice' hr
  have HR : Hid (RowB w B (.slice a n cap) n f) := hr
  clear hr
  cases hI : insideF n i m
  · have HM : Hid (mayF n f i m t = 1) := by show _ = _; unfold mayF; rw [hI]; rfl
    unfold insideF at hI
    simp only [Bool.and_eq_false_iff, decide_eq_false_iff_not] at hI
    by_cases h1 : m < 1
    · clear hI
      go_enter Tryd.func10, Tryd.ntmps10
      go_wp2
      go_ret
      exact ⟨by rw [HM.out]; rfl, rfl⟩
    · by_cases h2 : i < 0
      · clear hI
        go_enter Tryd.func10, Tryd.ntmps10
        go_wp2
        go_ret
        exact ⟨by rw [HM.out]; rfl, rfl⟩
      · by_cases h3 : (n : Int) < m
        · clear hI
          go_enter Tryd.func10, Tryd.ntmps10
          go_wp2
          go_ret
          exact ⟨by rw [HM.out]; rfl, rfl⟩
        · have h4 : (n : Int) - m < i := by omega
          clear hI
          go_enter Tryd.func10, Tryd.ntmps10
          go_wp2
          go_ret
          exact ⟨by rw [HM.out]; rfl, rfl⟩
  · have HM : Hid (mayF n f i m t = if ∀ x, x < m.toNat → f (i.toNat + x) = t then 0 else if t = true then 8 else 9) := by show _ = _; unfold mayF; rw [hI, if_pos rfl]
    unfold insideF at hI
    simp only [Bool.and_eq_true, decide_eq_true_eq] at hI
    obtain ⟨p, rfl⟩ : ∃ p : Nat, i = p := ⟨i.toNat, by omega⟩
    obtain ⟨q, rfl⟩ : ∃ q : Nat, m = q := ⟨m.toNat, by omega⟩
    have hpq : p + q ≤ n ∧ 1 ≤ q := by omega
    have h1 : decide ((q : Int) < 1) = false := decide_eq_false (by omega)
    have h3 : decide ((n : Int) < (q : Int)) = false := decide_eq_false (by omega)
    have h3n : decide (n < q) = false := decide_eq_false (by omega)
    have h4 : decide ((n : Int) - (q : Int) < (p : Int)) = false := decide_eq_false (by omega)
    clear hI
    rw [Int.toNat_natCast, Int.toNat_natCast] at HM
    go_enter Tryd.func10, Tryd.ntmps10
    go_wp2_with fail
    go_loop [9] (fun j => ∃ k : Nat, k ≤ q ∧ j = .int .i64 ((p : Int) + (k : Int)) ∧ (∀ x, x < k → f (p + x) = t)) (fun j => p + q - (intOf j).toNat)
    case atStart => exact ⟨0, Nat.zero_le _, by simp, fun x h => absurd h (Nat.not_lt_zero _)⟩
    case round =>
      obtain ⟨k, hk, rfl, hall⟩ := hrel
      have HA : Hid (∀ x, x < k → f (p + x) = t) := hall
      clear hall h1 h3 h3n h4
      by_cases hlt : k < q
      · obtain ⟨g, c', he⟩ := row_some' HR.out (by omega)
        cases he
        have e0 := HR.out.bool (p + k) (by omega)
        have hkn : ((p : Int) + (k : Int)) < (n : Int) := by omega
        have hkq : ((p : Int) + (k : Int)) < (p : Int) + (q : Int) := by omega
        by_cases hs : f (p + k) = t
        · have hne : (f (p + k) == t) = true := by rw [hs]; simp
          have HN : Hid (∀ x, x < k + 1 → f (p + x) = t) := by
            intro x hx
            by_cases hxk : x < k
            · exact HA.out x hxk
            · rw [show x = k by omega]; exact hs
          clear hs
          go_wp2
          go_round
          case rel => exact ⟨k + 1, by omega, by go_num, HN.out⟩
          case measure => simp [intOf]; omega
        · have hne : (f (p + k) == t) = false := by simpa using hs
          rw [if_neg (fun h => hs (h k hlt))] at HM
          clear hs
          cases t
          all_goals
            go_wp2
            go_ret
            exact ⟨by rw [HM.out]; rfl, rfl⟩
      · obtain rfl : k = q := by omega
        rw [if_pos HA.out] at HM
        have hkq : ¬ ((p : Int) + (k : Int)) < (p : Int) + (k : Int) := by omega
        go_wp2
        go_ret
        exact ⟨by rw [HM.out]; rfl, rfl⟩

/-- How many of the first are free. -/
def cntF (f : Nat → Bool) : Nat → Nat
  | 0 => 0
  | k + 1 => cntF f k + (if f k = true then 0 else 1)
theorem cntF_cnt (B : Nat → Nat) (k i : Nat) : cntF (fun j => tk B (i + j)) k = cnt B k i := by
  induction k generalizing i with
  | zero => rfl
  | succ k ih =>
    have hh : ∀ k i, cnt B (k + 1) i = cnt B k i + (if tk B (i + k) = true then 0 else 1) := by
      intro k
      induction k with
      | zero => intro i; simp [cnt]
      | succ k ih2 =>
        intro i
        rw [cnt, ih2 (i + 1), cnt, show i + 1 + k = i + (k + 1) by omega]
        omega
    rw [cntF, ih, hh]
theorem cntF_le (f : Nat → Bool) (k : Nat) : cntF f k ≤ k := by
  induction k with
  | zero => exact Nat.le_refl _
  | succ k ih => unfold cntF; split <;> omega

theorem reffree_any (v : Value) (n : Nat) (f : Nat → Bool) (hr : RowB w B v n f) (hn : n ≤ 1000000) :
    Calls Tryd.prog 31 #[v] w fun r w' => r = .returned (.int .i64 (cntF f n)) ∧ w' = w := by
  obtain ⟨a, cap, rfl, _⟩ := row_slice' hr
  have HR : Hid (RowB w B (.slice a n cap) n f) := hr
  clear hr
  go_enter Tryd.func31, Tryd.ntmps31
  go_wp2
  go_loop [3, 4] (fun c j => ∃ k : Nat, k ≤ n ∧ j = .int .i64 k ∧ c = .int .i64 (cntF f k)) (fun _ j => n - (intOf j).toNat)
  case atStart => exact ⟨0, Nat.zero_le _, rfl, rfl⟩
  case round =>
    obtain ⟨k, hk, rfl, rfl⟩ := hrel
    by_cases hlt : k < n
    · obtain ⟨g, c', he⟩ := row_some' HR.out (by omega)
      cases he
      have e0 := HR.out.bool k hlt
      have hle := cntF_le f k
      cases hs : f k
      · rw [hs] at e0
        have HC : Hid (((cntF f (k + 1) : Nat) : Int) = (cntF f k : Int) + 1) := by show _ = _; rw [cntF, hs]; simp
        clear hs
        go_wp2
        go_round
        case rel => exact ⟨k + 1, by omega, by go_num, by rw [HC.out]⟩
        case measure => simp [intOf]; omega
      · rw [hs] at e0
        have HC : Hid (((cntF f (k + 1) : Nat) : Int) = (cntF f k : Int)) := by show _ = _; rw [cntF, hs]; simp
        clear hs
        go_wp2
        go_round
        case rel => exact ⟨k + 1, by omega, by go_num, by rw [HC.out]⟩
        case measure => simp [intOf]; omega
    · obtain rfl : k = n := by omega
      go_wp2
      go_ret
      exact ⟨rfl, rfl⟩

end Go.Proofs.YtkflhakgfpiiaaaDoor.Bt
