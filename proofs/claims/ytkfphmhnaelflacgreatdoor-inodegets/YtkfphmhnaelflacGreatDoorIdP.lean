/-
  What growing, cutting and moving make of an inode, as plain data: extents that are apart stay apart. No condition.
-/
import Derived.Test.YtkfphmhnaelflacGreatDoorIdRight
namespace Go.Proofs.YtkfphmhnaelflacGreatDoor.Id
open Go.ChangeShapes Go.WideShapes Go.ChangeAt Go.RowKit Go.Proofs.Fa

/-- Has the document's list a sector of the extent? -/
theorem any_sec {l : List Ext} (h : OkL l) (e : Ext) (he : 1 ≤ e.len) : (secF l).any (fun s => decide (e.pos ≤ s) && decide (s < e.pos + e.len)) = l.any (meetsF e) := by
  induction l with
  | nil => rfl
  | cons o r ih =>
    have ho := h o (List.mem_cons_self ..)
    unfold Ok at ho
    simp only [secF, List.any_append, List.any_cons]
    rw [ih (fun x hx => h x (List.mem_cons_of_mem _ hx))]
    congr 1
    rw [Bool.eq_iff_iff, List.any_eq_true]
    constructor
    · rintro ⟨s, hs, hb⟩
      obtain ⟨j, hj, rfl⟩ := List.mem_map.1 hs
      have := List.mem_range.1 hj
      simp only [Bool.and_eq_true, decide_eq_true_eq] at hb
      simp only [meetsF, Bool.and_eq_true, decide_eq_true_eq]
      omega
    · intro hm
      simp only [meetsF, Bool.and_eq_true, decide_eq_true_eq] at hm
      refine ⟨max e.pos o.pos, ?_, ?_⟩
      · exact List.mem_map.2 ⟨(max e.pos o.pos - o.pos).toNat, List.mem_range.2 (by omega), by omega⟩
      · simp only [Bool.and_eq_true, decide_eq_true_eq]; omega

/-- No two extents have a sector in common. -/
def Apart : List Ext → Prop
  | [] => True
  | e :: r => r.any (meetsF e) = false ∧ Apart r
theorem meetsF_comm (e o : Ext) : meetsF e o = meetsF o e := by unfold meetsF; rw [Bool.and_comm]
theorem any_meets (l : List Ext) (e : Ext) : l.any (meetsF e) = false ↔ ∀ o ∈ l, meetsF e o = false := by
  rw [List.any_eq_false]
  constructor
  · intro h o ho; simpa using h o ho
  · intro h o ho; simp [h o ho]
theorem apart_snoc (l : List Ext) (e : Ext) : Apart (l ++ [e]) ↔ Apart l ∧ l.any (meetsF e) = false := by
  induction l with
  | nil => simp [Apart]
  | cons o r ih =>
    simp only [List.cons_append, Apart, ih, List.any_append, List.any_cons, List.any_nil, Bool.or_false, Bool.or_eq_false_iff]
    rw [meetsF_comm e o]
    constructor
    · rintro ⟨⟨h1, h2⟩, h3, h4⟩; exact ⟨⟨h1, h3⟩, h2, h4⟩
    · rintro ⟨⟨h1, h3⟩, h2, h4⟩; exact ⟨⟨h1, h2⟩, h3, h4⟩
theorem apart_app {l : List Ext} {e : Ext} (ha : Apart l) (ho : OkL l) (hm : mayF l e = true) : Apart (appF l e) := by
  unfold mayF at hm
  simp only [Bool.and_eq_true, Bool.not_eq_true'] at hm
  obtain ⟨hb, hn⟩ := hm
  have he := (belowF_ok e).1 hb
  unfold Ok at he
  rcases last_cases l with rfl | ⟨a, o, rfl⟩
  · rw [appF_nil]; exact ⟨rfl, True.intro⟩
  · by_cases hj : o.pos + o.len = e.pos
    · rw [appF_join _ _ _ hj, apart_snoc]
      obtain ⟨h1, h2⟩ := (apart_snoc a o).1 ha
      refine ⟨h1, (any_meets _ _).2 (fun x hx => ?_)⟩
      have h3 := (any_meets _ _).1 h2 x hx
      have h4 := (any_meets _ _).1 hn x (by simp [hx])
      have hx' := ho x (by simp [hx])
      have ho' := ho o (by simp)
      unfold Ok at hx' ho'
      unfold meetsF at *
      simp only [Bool.and_eq_false_iff, decide_eq_false_iff_not] at *
      omega
    · rw [appF_new _ _ _ hj, apart_snoc]
      exact ⟨ha, hn⟩

/-- What is left of a list of extents, some cut short, is apart as they were. -/
def Within (o e : Ext) : Prop := e.pos ≤ o.pos ∧ o.pos + o.len ≤ e.pos + e.len ∧ 1 ≤ o.len
theorem meets_within {e o x : Ext} (h : Within o e) (hm : meetsF e x = false) (_ : 1 ≤ x.len) : meetsF o x = false := by
  unfold Within at h
  unfold meetsF at *
  simp only [Bool.and_eq_false_iff, decide_eq_false_iff_not] at *
  omega
theorem cutK_in {l : List Ext} (ho : OkL l) (b : Int) (hb : 0 ≤ b) : ∀ x ∈ cutK l b, ∃ e ∈ l, Within x e := by
  induction l generalizing b with
  | nil => intro x hx; simp [cutK] at hx
  | cons e r ih =>
    have he := ho e (List.mem_cons_self ..)
    unfold Ok at he
    intro x hx
    simp only [cutK, List.mem_append] at hx
    rcases hx with hx | hx
    · by_cases hc : 0 < min b e.len
      · rw [if_pos hc] at hx
        simp only [List.mem_singleton] at hx
        subst hx
        exact ⟨e, List.mem_cons_self .., by unfold Within; dsimp only; omega⟩
      · rw [if_neg hc] at hx; cases hx
    · obtain ⟨e', he', hw⟩ := ih (fun y hy => ho y (List.mem_cons_of_mem _ hy)) _ (by omega) x hx
      exact ⟨e', List.mem_cons_of_mem _ he', hw⟩
theorem cutK_ok' {l : List Ext} (ho : OkL l) (b : Int) (hb : 0 ≤ b) : OkL (cutK l b) := by
  intro x hx
  obtain ⟨e, he, hw⟩ := cutK_in ho b hb x hx
  have := ho e he
  unfold Ok at *
  unfold Within at hw
  omega
theorem cutK_apart {l : List Ext} (ha : Apart l) (ho : OkL l) (b : Int) (hb : 0 ≤ b) : Apart (cutK l b) := by
  induction l generalizing b with
  | nil => simp [cutK, Apart]
  | cons e r ih =>
    have he := ho e (List.mem_cons_self ..)
    have hr : OkL r := fun y hy => ho y (List.mem_cons_of_mem _ hy)
    unfold Ok at he
    obtain ⟨h1, h2⟩ := ha
    have hx := ih h2 hr (b - min b e.len) (by omega)
    simp only [cutK]
    by_cases hc : 0 < min b e.len
    · rw [if_pos hc, List.singleton_append]
      refine ⟨(any_meets _ _).2 (fun x hxm => ?_), hx⟩
      obtain ⟨o, ho', hw⟩ := cutK_in hr _ (by omega) x hxm
      have h3 := (any_meets _ _).1 h1 o ho'
      have h4 := meets_within hw ((meetsF_comm o e).trans h3) he.2.1
      rw [meetsF_comm] at h4
      have hxl : 1 ≤ x.len := hw.2.2
      refine meets_within (e := e) ?_ h4 hxl
      unfold Within; dsimp only; omega
    · rw [if_neg hc, List.nil_append]
      exact hx
theorem cutK_all {l : List Ext} (ho : OkL l) (b : Int) (hb : b = sizeF l) : cutL l b = [] := by
  induction l generalizing b with
  | nil => rfl
  | cons e r ih =>
    have he := ho e (List.mem_cons_self ..)
    have hr : OkL r := fun y hy => ho y (List.mem_cons_of_mem _ hy)
    have hn := sizeF_nonneg hr
    unfold Ok at he
    simp only [sizeF] at hb
    have hm : min b e.len = e.len := by omega
    simp only [cutL]
    rw [hm, if_neg (by omega), List.nil_append]
    exact ih hr _ (by omega)

/-- An extent elsewhere. -/
def movL (l : List Ext) (i : Nat) (pos : Int) : List Ext := l.modify i (fun e => ⟨pos, e.len⟩)
theorem movL_length (l : List Ext) (i : Nat) (pos : Int) : (movL l i pos).length = l.length := by simp [movL]
theorem movL_mem {l : List Ext} {i : Nat} {pos : Int} {x : Ext} (h : x ∈ movL l i pos) : x ∈ l ∨ ∃ e, l[i]? = some e ∧ x = ⟨pos, e.len⟩ := by
  obtain ⟨j, hj, rfl⟩ := List.getElem_of_mem h
  unfold movL at hj ⊢
  rw [List.length_modify] at hj
  rw [List.getElem_modify]
  by_cases e : i = j
  · subst e
    rw [if_pos rfl]
    exact .inr ⟨_, List.getElem?_eq_getElem hj, rfl⟩
  · rw [if_neg e]; exact .inl (List.getElem_mem hj)
theorem movL_ok {l : List Ext} {i : Nat} {pos : Int} {e : Ext} (hl : OkL l) (hi : l[i]? = some e) (hm : mayF l ⟨pos, e.len⟩ = true) : OkL (movL l i pos) := by
  intro x hx
  rcases movL_mem hx with h | ⟨e', he', rfl⟩
  · exact hl x h
  · rw [hi] at he'; cases he'
    unfold mayF at hm
    simp only [Bool.and_eq_true] at hm
    exact (belowF_ok _).1 hm.1
theorem movL_apart {l : List Ext} {i : Nat} {pos : Int} {e : Ext} (ha : Apart l) (hi : l[i]? = some e) (hm : l.any (meetsF ⟨pos, e.len⟩) = false) : Apart (movL l i pos) := by
  induction l generalizing i with
  | nil => simp at hi
  | cons o r ih =>
    obtain ⟨h1, h2⟩ := ha
    simp only [List.any_cons, Bool.or_eq_false_iff] at hm
    cases i with
    | zero =>
      simp only [List.getElem?_cons_zero, Option.some.injEq] at hi
      subst hi
      exact ⟨hm.2, h2⟩
    | succ i =>
      have hi' : r[i]? = some e := by simpa using hi
      refine ⟨(any_meets _ _).2 (fun x hx => ?_), ih h2 hi' hm.2⟩
      rcases movL_mem hx with h | ⟨e', he', rfl⟩
      · exact (any_meets _ _).1 h1 x h
      · rw [hi'] at he'; cases he'
        rw [meetsF_comm]; exact hm.1

end Go.Proofs.YtkfphmhnaelflacGreatDoor.Id
