/-
  Things that are numbered, dropped and come free in order: pure. No condition.
-/
import Derived.Test.YtgfbcekmnpdoeaaHdK
namespace Go.Proofs.Ytgfbcekmnpdoeaa.Hdi
open Go.ChangeShapes Go.WideShapes Go.ChangeAt Go.RowKit Go.Proofs.Fa Go.Proofs.Ytgfbcekmnpdoeaa.Hd

/-- What is held is numbered from a on, up to n; with nobody inside nothing is. -/
structure OrdI (s : HS Int) (a n : Int) : Prop where
  num : ∀ j (h : j < s.l.length), (s.l[j]).1 = a + j
  cnt : a + s.l.length = n
  le : ∀ d ∈ s.l, d.2 ≤ s.last
  emp : s.m = [] → s.l = []

theorem OrdI.new : OrdI (⟨0, [], 0, []⟩ : HS Int) 0 0 := ⟨fun _ h => absurd h (Nat.not_lt_zero _), rfl, (fun _ h => nomatch h), fun _ => rfl⟩
theorem OrdI.enter {s : HS Int} {a n : Int} (h : OrdI s a n) : OrdI (enterF s) a n :=
  ⟨h.num, h.cnt, fun d hd => by have := h.le d hd; show d.2 ≤ s.last + 1; omega, fun e => by
    have : s.m ++ [s.last + 1] = [] := e
    simp at this⟩
theorem OrdI.drop {s : HS Int} {a n : Int} (h : OrdI s a n) (hm : s.m ≠ []) : OrdI (dropF s [n]) a (n + 1) := by
  have hl : (dropF s [n]).l = s.l ++ [(n, s.last)] := rfl
  have hc := h.cnt
  refine ⟨fun j hj => ?_, ?_, fun d hd => ?_, fun e => absurd e hm⟩
  · simp only [hl] at hj ⊢
    rcases Nat.lt_or_ge j s.l.length with hj' | hj'
    · rw [List.getElem_append_left hj']; exact h.num j hj'
    · rw [List.getElem_append_right hj']
      rw [List.length_append, List.length_singleton] at hj
      have e : j = s.l.length := by omega
      subst e
      simp
      omega
  · rw [hl, List.length_append, List.length_singleton]; omega
  · rw [hl] at hd
    rcases List.mem_append.1 hd with hd | hd
    · exact h.le d hd
    · simp only [List.mem_cons, List.not_mem_nil, or_false] at hd
      subst hd
      exact Int.le_refl _
theorem freeN_all {α : Type} (l : List (α × Int)) (e : Int) (h : ∀ d ∈ l, d.2 < e) : freeN l e = l.length :=
  freeN_at l e l.length (fun _ hj _ => h _ (List.getElem_mem hj)) (.inl rfl)
theorem leaveL_length (s : HS Int) (t : Int) : (leaveL s t).length = freeN s.l (lo (strike s.m t) s.last) := by
  have := freeN_le s.l (lo (strike s.m t) s.last)
  simp only [leaveL, List.length_map, List.length_take]
  omega
theorem OrdI.leave {s : HS Int} {a n : Int} (h : OrdI s a n) (t : Int) : OrdI (leaveF s t) (a + (leaveL s t).length) n ∧ ∀ j (hj : j < (leaveL s t).length), (leaveL s t)[j] = a + j := by
  have hf := freeN_le s.l (lo (strike s.m t) s.last)
  have hlen := leaveL_length s t
  have hc := h.cnt
  have hl : (leaveF s t).l = s.l.drop (freeN s.l (lo (strike s.m t) s.last)) := rfl
  refine ⟨⟨fun j hj => ?_, ?_, fun d hd => ?_, fun e => ?_⟩, fun j hj => ?_⟩
  · simp only [hl] at hj ⊢
    rw [List.getElem_drop]
    rw [List.length_drop] at hj
    rw [h.num _ (by omega), hlen]
    omega
  · rw [hl, List.length_drop, hlen]; omega
  · rw [hl] at hd
    exact h.le d (List.mem_of_mem_drop hd)
  · have e' : strike s.m t = [] := e
    rw [hl, e']
    rw [freeN_all s.l (lo [] s.last) (fun d hd => by have := h.le d hd; show d.2 < s.last + 1; omega)]
    exact List.drop_length
  · have hj' : j < s.l.length := by omega
    have := h.num j hj'
    simp only [leaveL, List.getElem_map, List.getElem_take]
    exact this

theorem strike_at (m : List Int) (hm : m.Pairwise (· < ·)) (k : Nat) (hk : k < m.length) : strike m m[k] = m.take k ++ m.drop (k + 1) := by
  induction m generalizing k with
  | nil => cases hk
  | cons x r ih =>
    obtain ⟨h1, h2⟩ := List.pairwise_cons.1 hm
    cases k with
    | zero =>
      show strike (x :: r) x = r
      have hr : strike (x :: r) x = strike r x := by simp [strike]
      rw [hr]
      exact strike_none (fun ha => by have := h1 x ha; omega)
    | succ k =>
      have hk' : k < r.length := by simpa using hk
      have hne : x ≠ r[k] := fun e => by have := h1 _ (List.getElem_mem hk'); omega
      show strike (x :: r) r[k] = x :: (r.take k ++ r.drop (k + 1))
      rw [← ih h2 k hk']
      simp [strike, hne]

end Go.Proofs.Ytgfbcekmnpdoeaa.Hdi
