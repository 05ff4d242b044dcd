/-
  The document's holds and the program's tell the same: pure. No condition.
-/
import Derived.Test.YtgfbcekmnpdoeaaHdDr
import Derived.Test.YtgfbcekmnpdoeaaHdO
namespace Go.Proofs.Ytgfbcekmnpdoeaa.Hdi
open Go.ChangeShapes Go.WideShapes Go.ChangeAt Go.RowKit Go.Proofs.Fa Go.Proofs.Ytgfbcekmnpdoeaa.Hd

theorem emp_key (K : List Th) : (emp K).map Th.x = ((K.map keyT).filter (fun p => p.2.isEmpty)).map Prod.fst := by
  unfold emp
  induction K with
  | nil => rfl
  | cons t r ih =>
    by_cases e : t.bs.isEmpty = true
    · simp [keyT, e] at ih ⊢
      exact ih
    · simp [keyT, e] at ih ⊢
      exact ih
theorem non_key (K : List Th) : (non K).map keyT = (K.map keyT).filter (fun p => !p.2.isEmpty) := by
  unfold non
  induction K with
  | nil => rfl
  | cons t r ih =>
    by_cases e : t.bs.isEmpty = true
    · simp [keyT, e] at ih ⊢
      exact ih
    · simp [keyT, e] at ih ⊢
      exact ih

/-- By whom a thing is held that was dropped when k was the last ticket. -/
def byF (m : List Int) (k : Int) : List Int := m.filter (fun t => decide (t ≤ k))
def lF (s : HS Int) : List (Int × List Int) := s.l.map (fun d => (d.1, byF s.m d.2))
structure Eqv (s : HS Int) : Prop where
  asc : s.l.Pairwise (fun a b => a.2 ≤ b.2)
  le : ∀ d ∈ s.l, d.2 ≤ s.last
  non : ∀ d ∈ s.l, lo s.m s.last ≤ d.2

theorem by_empty {m : List Int} {last k : Int} (hm : m.Pairwise (· < ·)) (hl : k ≤ last) : (byF m k).isEmpty = decide (k < lo m last) := by
  unfold byF
  by_cases h0 : m = []
  · subst h0
    have : k < lo [] last := by show k < last + 1; omega
    simp [this]
  · by_cases hk : k < lo m last
    · rw [decide_eq_true hk, List.isEmpty_iff, List.filter_eq_nil_iff]
      intro t ht
      have := lo_le (last := last) hm t ht
      simp
      omega
    · rw [decide_eq_false hk, Bool.eq_false_iff]
      intro e
      rw [List.isEmpty_iff, List.filter_eq_nil_iff] at e
      have := e _ (lo_mem (last := last) h0)
      simp at this
      omega
theorem take_while {α : Type} (l : List (α × Int)) (e : Int) (h : l.Pairwise (fun a b => a.2 ≤ b.2)) : l.take (freeN l e) = l.filter (fun d => decide (d.2 < e)) ∧ l.drop (freeN l e) = l.filter (fun d => !decide (d.2 < e)) := by
  unfold freeN
  induction l with
  | nil => exact ⟨rfl, rfl⟩
  | cons d r ih =>
    obtain ⟨h1, h2⟩ := List.pairwise_cons.1 h
    obtain ⟨i1, i2⟩ := ih h2
    by_cases hd : d.2 < e
    · simp [List.takeWhile, hd]
      exact ⟨by simpa using i1, by simpa using i2⟩
    · have hr : ∀ x ∈ r, ¬ x.2 < e := fun x hx => by have := h1 x hx; omega
      have hr2 : ∀ x ∈ r, e ≤ x.2 := fun x hx => by have := hr x hx; omega
      simp only [List.takeWhile, hd, decide_false, List.length_nil, List.take_zero, List.drop_zero]
      constructor
      · symm
        rw [List.filter_eq_nil_iff]
        intro x hx
        rcases List.mem_cons.1 hx with rfl | hx
        · simpa using hd
        · simpa using hr x hx
      · symm
        rw [List.filter_eq_self]
        intro x hx
        rcases List.mem_cons.1 hx with rfl | hx
        · simpa using hd
        · simpa using hr x hx
theorem by_strike (m : List Int) (t k : Int) : strike (byF m k) t = byF (strike m t) k := by
  unfold strike byF
  rw [List.filter_filter, List.filter_filter]
  congr 1
  funext x
  exact Bool.and_comm _ _

theorem Eqv.new : Eqv (⟨0, [], 0, []⟩ : HS Int) := ⟨List.Pairwise.nil, (fun _ h => nomatch h), (fun _ h => nomatch h)⟩
theorem Eqv.mne {s : HS Int} (h : Eqv s) (hm : s.m = []) : s.l = [] := by
  cases hl : s.l with
  | nil => rfl
  | cons d r =>
    have h1 := h.non d (by rw [hl]; exact List.mem_cons_self ..)
    have h2 := h.le d (by rw [hl]; exact List.mem_cons_self ..)
    rw [hm] at h1
    have h3 : s.last + 1 ≤ d.2 := h1
    omega
theorem lo_snoc {m : List Int} (h : m ≠ []) (x last last' : Int) : lo (m ++ [x]) last' = lo m last := by
  cases m with
  | nil => exact absurd rfl h
  | cons a r => rfl
theorem Eqv.enter {s : HS Int} (h : Eqv s) : Eqv (enterF s) ∧ lF (enterF s) = lF s := by
  refine ⟨⟨h.asc, fun d hd => by have := h.le d hd; show d.2 ≤ s.last + 1; omega, fun d hd => ?_⟩, ?_⟩
  · have hm : s.m ≠ [] := fun e => by have := h.mne e; have hd' : d ∈ s.l := hd; rw [this] at hd'; cases hd'
    show lo (s.m ++ [s.last + 1]) (s.last + 1) ≤ d.2
    rw [lo_snoc hm _ s.last]
    exact h.non d hd
  · unfold lF
    refine List.map_congr_left (fun d hd => ?_)
    have hd' : d ∈ s.l := hd
    have := h.le d hd'
    show (d.1, byF (s.m ++ [s.last + 1]) d.2) = (d.1, byF s.m d.2)
    unfold byF
    rw [List.filter_append]
    have : decide (s.last + 1 ≤ d.2) = false := by rw [decide_eq_false_iff_not]; omega
    simp [this]
theorem Eqv.leave {s : HS Int} (h : Eqv s) (hk : Ok s) (t : Int) :
    Eqv (leaveF s t) ∧ (((lF s).map (fun p => (p.1, strike p.2 t))).filter (fun p => p.2.isEmpty)).map Prod.fst = leaveL s t ∧ ((lF s).map (fun p => (p.1, strike p.2 t))).filter (fun p => !p.2.isEmpty) = lF (leaveF s t) := by
  obtain ⟨h1, h2⟩ := take_while s.l (lo (strike s.m t) s.last) h.asc
  have hs := strike_asc t hk.asc
  have hl : (leaveF s t).l = s.l.filter (fun d => !decide (d.2 < lo (strike s.m t) s.last)) := h2
  have hmap : (lF s).map (fun p => (p.1, strike p.2 t)) = s.l.map (fun d => (d.1, byF (strike s.m t) d.2)) := by
    unfold lF
    rw [List.map_map]
    refine List.map_congr_left (fun d _ => ?_)
    show (d.1, strike (byF s.m d.2) t) = _
    rw [by_strike]
  refine ⟨⟨?_, fun d hd => ?_, fun d hd => ?_⟩, ?_, ?_⟩
  · rw [hl]; exact h.asc.filter _
  · rw [hl] at hd; exact h.le d (List.mem_filter.1 hd).1
  · rw [hl] at hd
    have := (List.mem_filter.1 hd).2
    show lo (strike s.m t) s.last ≤ d.2
    simp at this
    exact this
  · rw [hmap, List.filter_map, List.map_map]
    unfold leaveL
    rw [h1]
    have e : s.l.filter ((fun p : Int × List Int => p.2.isEmpty) ∘ fun d => (d.1, byF (strike s.m t) d.2)) = s.l.filter (fun d => decide (d.2 < lo (strike s.m t) s.last)) :=
      List.filter_congr (fun d hd => by_empty hs (h.le d hd))
    rw [e]
    rfl
  · rw [hmap, List.filter_map]
    unfold lF
    rw [hl]
    have e : s.l.filter ((fun p : Int × List Int => !p.2.isEmpty) ∘ fun d => (d.1, byF (strike s.m t) d.2)) = s.l.filter (fun d => !decide (d.2 < lo (strike s.m t) s.last)) :=
      List.filter_congr (fun d hd => by
        show (!(byF (strike s.m t) d.2).isEmpty) = _
        rw [by_empty hs (h.le d hd)])
    rw [e]
    rfl
theorem pw_all {α : Type} {R : α → α → Prop} (h : ∀ a b, R a b) : ∀ l : List α, l.Pairwise R
  | [] => List.Pairwise.nil
  | _ :: r => List.Pairwise.cons (fun _ _ => h _ _) (pw_all h r)
theorem by_all {s : HS Int} (hk : Ok s) : byF s.m s.last = s.m := by
  unfold byF
  rw [List.filter_eq_self]
  intro t ht
  have := (hk.inn t ht).2.2
  simpa using this
theorem Eqv.drop {s : HS Int} (h : Eqv s) (hk : Ok s) (hm : s.m ≠ []) (xs : List Int) :
    Eqv (dropF s xs) ∧ (lF s ++ xs.map (fun x => (x, s.m))).filter (fun p => p.2.isEmpty) = [] ∧ (lF s ++ xs.map (fun x => (x, s.m))).filter (fun p => !p.2.isEmpty) = lF (dropF s xs) := by
  have hlo : lo s.m s.last ≤ s.last := (hk.inn _ (lo_mem (last := s.last) hm)).2.2
  have hne : ∀ p ∈ lF s ++ xs.map (fun x => (x, s.m)), p.2.isEmpty = false := fun p hp => by
    rcases List.mem_append.1 hp with hp | hp
    · obtain ⟨d, hd, rfl⟩ := List.mem_map.1 hp
      show (byF s.m d.2).isEmpty = false
      rw [by_empty hk.asc (h.le d hd), decide_eq_false_iff_not]
      have := h.non d hd
      omega
    · obtain ⟨x, _, rfl⟩ := List.mem_map.1 hp
      show s.m.isEmpty = false
      rw [Bool.eq_false_iff]
      exact fun e => hm (List.isEmpty_iff.1 e)
  have hl : (dropF s xs).l = s.l ++ xs.map (fun x => (x, s.last)) := rfl
  refine ⟨⟨?_, fun d hd => ?_, fun d hd => ?_⟩, ?_, ?_⟩
  · rw [hl, List.pairwise_append]
    refine ⟨h.asc, ?_, fun a ha c hc => ?_⟩
    · rw [List.pairwise_map]
      exact pw_all (fun _ _ => Int.le_refl _) xs
    · obtain ⟨x, _, rfl⟩ := List.mem_map.1 hc
      exact h.le a ha
  · rw [hl] at hd
    rcases List.mem_append.1 hd with hd | hd
    · exact h.le d hd
    · obtain ⟨x, _, rfl⟩ := List.mem_map.1 hd
      exact Int.le_refl _
  · rw [hl] at hd
    rcases List.mem_append.1 hd with hd | hd
    · exact h.non d hd
    · obtain ⟨x, _, rfl⟩ := List.mem_map.1 hd
      exact hlo
  · rw [List.filter_eq_nil_iff]
    intro p hp
    rw [hne p hp]
    exact Bool.false_ne_true
  · rw [List.filter_eq_self.2 (fun p hp => by rw [hne p hp]; rfl)]
    unfold lF
    rw [hl, List.map_append, List.map_map]
    congr 1
    refine List.map_congr_left (fun x _ => ?_)
    show (x, s.m) = (x, byF s.m s.last)
    rw [by_all hk]
/-- With nobody inside all is free at once. -/
theorem Eqv.drop0 {s : HS Int} (h : Eqv s) (hm : s.m = []) (xs : List Int) :
    ((lF s ++ xs.map (fun x => (x, s.m))).filter (fun p => p.2.isEmpty)).map Prod.fst = xs ∧ (lF s ++ xs.map (fun x => (x, s.m))).filter (fun p => !p.2.isEmpty) = lF s := by
  have hl : lF s = [] := by unfold lF; rw [h.mne hm]; rfl
  rw [hl, hm, List.nil_append]
  constructor
  · rw [List.filter_eq_self.2 (fun p hp => by obtain ⟨x, _, rfl⟩ := List.mem_map.1 hp; rfl), List.map_map]
    exact List.map_id _
  · rw [List.filter_eq_nil_iff]
    intro p hp
    obtain ⟨x, _, rfl⟩ := List.mem_map.1 hp
    exact Bool.false_ne_true

end Go.Proofs.Ytgfbcekmnpdoeaa.Hdi
