/-
  Layer 8's inode as plain data: its size, its sectors, what growing and cutting make of it. No condition.
-/
import Derived.Test.YtkfphmhnaelflacGreatDoorRows
import Derived.WalkKit
import Derived.ProofKit
import Derived.OpenShut
import Derived.Below
import Derived.OwnWalk
import Derived.Laws.AppendOwn
namespace Go.Proofs.YtkfphmhnaelflacGreatDoor.Id
open Go.ChangeShapes Go.WideShapes Go.ChangeAt Go.RowKit

/-- An extent. -/
structure Ext where
  pos : Int
  len : Int

def Ext.agg (e : Ext) : Value := .agg #[.int .i64 e.pos, .int .i64 e.len]
/-- The cells of extents, one behind the other. -/
def ecells : List Ext → List Value
  | [] => []
  | e :: r => .int .i64 e.pos :: .int .i64 e.len :: ecells r
theorem ecells_append (a b : List Ext) : ecells (a ++ b) = ecells a ++ ecells b := by induction a with
  | nil => rfl
  | cons c a ih => simp [ecells, ih]
theorem ecells_length (a : List Ext) : (ecells a).length = a.length * 2 := by induction a with
  | nil => rfl
  | cons c a ih => simp [ecells, ih]; omega
theorem ecells_at (a : List Ext) (j : Nat) (e : Ext) (h : a[j]? = some e) : (ecells a)[j * 2]? = some (.int .i64 e.pos) ∧ (ecells a)[j * 2 + 1]? = some (.int .i64 e.len) := by
  induction a generalizing j with
  | nil => simp at h
  | cons x a ih =>
    cases j with
    | zero =>
      simp only [List.getElem?_cons_zero, Option.some.injEq] at h
      subst h
      exact ⟨rfl, rfl⟩
    | succ j =>
      have h' : a[j]? = some e := by simpa using h
      have := ih j h'
      rw [show (j + 1) * 2 = j * 2 + 2 by omega]
      exact this
theorem ecells_one (a : List Ext) : ∀ u ∈ ecells a, u.oneCell' = true := by
  induction a with
  | nil => intro u hu; cases hu
  | cons c a ih =>
    intro u hu
    simp only [ecells, List.mem_cons] at hu
    rcases hu with rfl | rfl | hu
    · rfl
    · rfl
    · exact ih u hu
theorem ecells_inj {a b : List Ext} (h : ecells a = ecells b) : a = b := by
  induction a generalizing b with
  | nil => cases b with
    | nil => rfl
    | cons y b => simp [ecells] at h
  | cons x a ih => cases b with
    | nil => simp [ecells] at h
    | cons y b =>
      simp only [ecells, List.cons.injEq, Value.int.injEq, true_and] at h
      obtain ⟨h1, h2, h3⟩ := h
      rw [ih h3]
      cases x; cases y
      simp_all

/-- Sectors below 2048, one or more. -/
def Ok (e : Ext) : Prop := 0 ≤ e.pos ∧ 1 ≤ e.len ∧ e.pos + e.len ≤ 2048
def OkL (l : List Ext) : Prop := ∀ e ∈ l, Ok e
theorem OkL.nil : OkL [] := fun _ h => by cases h
theorem OkL.at {l : List Ext} (h : OkL l) (k : Nat) (hk : k < l.length) : Ok l[k] := h _ (List.getElem_mem hk)
theorem OkL.drop {l : List Ext} (h : OkL l) (k : Nat) : OkL (l.drop k) := fun e he => h e (List.mem_of_mem_drop he)
theorem OkL.append {a b : List Ext} (ha : OkL a) (hb : OkL b) : OkL (a ++ b) := fun e he => by
  rcases List.mem_append.1 he with h | h
  · exact ha e h
  · exact hb e h

def sizeF : List Ext → Int
  | [] => 0
  | e :: r => e.len + sizeF r
theorem sizeF_append (a b : List Ext) : sizeF (a ++ b) = sizeF a + sizeF b := by induction a with
  | nil => simp [sizeF]
  | cons c a ih => simp only [List.cons_append, sizeF, ih]; omega
theorem sizeF_nonneg {l : List Ext} (h : OkL l) : 0 ≤ sizeF l := by induction l with
  | nil => exact Int.le_refl 0
  | cons c a ih =>
    have h1 := ih (fun e he => h e (List.mem_cons_of_mem _ he))
    have h2 := (h c (List.mem_cons_self ..)).2.1
    simp only [sizeF]; omega
theorem sizeF_le {l : List Ext} (h : OkL l) : sizeF l ≤ 2048 * l.length := by induction l with
  | nil => exact Int.le_refl 0
  | cons c a ih =>
    have h1 := ih (fun e he => h e (List.mem_cons_of_mem _ he))
    have h2 := h c (List.mem_cons_self ..)
    unfold Ok at h2
    simp only [sizeF, List.length_cons]; omega

/-- The sector of a block. -/
def mapF : List Ext → Int → Option Int
  | [], _ => none
  | e :: r, b => if b < e.len then some (e.pos + b) else mapF r (b - e.len)
theorem mapF_append (a c : List Ext) (b : Int) (h : OkL a) (hb : 0 ≤ b) : mapF (a ++ c) b = if b < sizeF a then mapF a b else mapF c (b - sizeF a) := by
  induction a generalizing b with
  | nil =>
    simp only [List.nil_append, sizeF, Int.sub_zero]
    rw [if_neg (by omega)]
  | cons e a ih =>
    have ha : OkL a := fun x hx => h x (List.mem_cons_of_mem _ hx)
    have hn := sizeF_nonneg ha
    have hs : sizeF (e :: a) = e.len + sizeF a := rfl
    rw [hs]
    simp only [List.cons_append, mapF]
    by_cases h1 : b < e.len
    · rw [if_pos h1, if_pos h1, if_pos (by omega)]
    · rw [if_neg h1, if_neg h1, ih _ ha (by omega)]
      by_cases h2 : b - e.len < sizeF a
      · rw [if_pos h2, if_pos (by omega)]
      · rw [if_neg h2, if_neg (by omega), show b - e.len - sizeF a = b - (e.len + sizeF a) by omega]
theorem mapF_some {l : List Ext} (h : OkL l) (b : Int) (h0 : 0 ≤ b) (hb : b < sizeF l) : ∃ s, mapF l b = some s := by
  induction l generalizing b with
  | nil => simp only [sizeF] at hb; omega
  | cons e l ih =>
    simp only [mapF]
    by_cases h1 : b < e.len
    · rw [if_pos h1]; exact ⟨_, rfl⟩
    · rw [if_neg h1]
      simp only [sizeF] at hb
      exact ih (fun x hx => h x (List.mem_cons_of_mem _ hx)) _ (by omega) (by omega)
theorem mapF_none {l : List Ext} (h : OkL l) (b : Int) (hb : sizeF l ≤ b) : mapF l b = none := by
  induction l generalizing b with
  | nil => rfl
  | cons e l ih =>
    have hl : OkL l := fun x hx => h x (List.mem_cons_of_mem _ hx)
    have := sizeF_nonneg hl
    simp only [sizeF] at hb
    simp only [mapF]
    rw [if_neg (by omega)]
    exact ih hl _ (by omega)

/-- Have the two a sector in common? -/
def meetsF (e o : Ext) : Bool := decide (e.pos < o.pos + o.len) && decide (o.pos < e.pos + e.len)
def belowF (e : Ext) (s : Int) : Bool := decide (0 ≤ e.pos) && decide (1 ≤ e.len) && decide (e.len ≤ s - e.pos)
theorem belowF_ok (e : Ext) : belowF e 2048 = true ↔ Ok e := by
  unfold belowF Ok
  simp only [Bool.and_eq_true, decide_eq_true_eq]
  omega
/-- May these sectors become the inode's? -/
def mayF (l : List Ext) (e : Ext) : Bool := belowF e 2048 && !(l.any (meetsF e))
/-- With an extent more. -/
def appF (l : List Ext) (e : Ext) : List Ext := match l.getLast? with
  | some o => if o.pos + o.len = e.pos then l.dropLast ++ [⟨o.pos, o.len + e.len⟩] else l ++ [e]
  | none => [e]
theorem appF_nil (e : Ext) : appF [] e = [e] := rfl
theorem appF_join (l : List Ext) (o e : Ext) (h : o.pos + o.len = e.pos) : appF (l ++ [o]) e = l ++ [⟨o.pos, o.len + e.len⟩] := by
  unfold appF
  simp [h]
theorem appF_new (l : List Ext) (o e : Ext) (h : o.pos + o.len ≠ e.pos) : appF (l ++ [o]) e = l ++ [o] ++ [e] := by
  unfold appF
  simp [h]
theorem last_cases (l : List Ext) : l = [] ∨ ∃ a o, l = a ++ [o] := by
  rcases List.eq_nil_or_concat l with h | ⟨a, o, h⟩
  · exact .inl h
  · exact .inr ⟨a, o, by simpa using h⟩
theorem appF_size (l : List Ext) (e : Ext) : sizeF (appF l e) = sizeF l + e.len := by
  rcases last_cases l with rfl | ⟨a, o, rfl⟩
  · simp [appF_nil, sizeF]
  · by_cases h : o.pos + o.len = e.pos
    · rw [appF_join _ _ _ h]; simp [sizeF_append, sizeF]; omega
    · rw [appF_new _ _ _ h]; simp [sizeF_append, sizeF]; omega
theorem appF_ok {l : List Ext} {e : Ext} (h : OkL l) (he : Ok e) : OkL (appF l e) := by
  rcases last_cases l with rfl | ⟨a, o, rfl⟩
  · intro x hx
    rw [appF_nil] at hx
    simp only [List.mem_singleton] at hx
    subst hx; exact he
  · have ho : Ok o := h o (by simp)
    have ha : OkL a := fun x hx => h x (by simp [hx])
    by_cases hj : o.pos + o.len = e.pos
    · rw [appF_join _ _ _ hj]
      refine ha.append (fun x hx => ?_)
      simp only [List.mem_singleton] at hx
      subst hx
      unfold Ok at *
      dsimp only
      omega
    · rw [appF_new _ _ _ hj]
      refine h.append (fun x hx => ?_)
      simp only [List.mem_singleton] at hx
      subst hx; exact he
theorem appF_map {l : List Ext} {e : Ext} (he : Ok e) (h : OkL l) (b : Int) (h0 : 0 ≤ b) (hb : b < sizeF l) : mapF (appF l e) b = mapF l b := by
  rcases last_cases l with rfl | ⟨a, o, rfl⟩
  · simp only [sizeF] at hb; omega
  · have ha : OkL a := fun x hx => h x (by simp [hx])
    by_cases hj : o.pos + o.len = e.pos
    · rw [appF_join _ _ _ hj, mapF_append _ _ _ ha h0, mapF_append _ _ _ ha h0]
      by_cases h1 : b < sizeF a
      · rw [if_pos h1, if_pos h1]
      · rw [if_neg h1, if_neg h1]
        rw [sizeF_append] at hb
        simp only [sizeF] at hb
        simp only [mapF]
        have := (h o (by simp)).2.1
        unfold Ok at he
        rw [if_pos (by omega), if_pos (by omega)]
    · rw [appF_new _ _ _ hj, mapF_append _ _ _ h h0, if_pos hb]

/-- What stays of an inode that is cut, and what is free then. -/
def cutK : List Ext → Int → List Ext
  | [], _ => []
  | e :: r, b => (if 0 < min b e.len then [⟨e.pos, min b e.len⟩] else []) ++ cutK r (b - min b e.len)
def cutL : List Ext → Int → List Ext
  | [], _ => []
  | e :: r, b => (if min b e.len < e.len then [⟨e.pos + min b e.len, e.len - min b e.len⟩] else []) ++ cutL r (b - min b e.len)
theorem cutK_ok {l : List Ext} (h : OkL l) (b : Int) : OkL (cutK l b) := by
  induction l generalizing b with
  | nil => exact OkL.nil
  | cons e l ih =>
    refine OkL.append ?_ (ih (fun x hx => h x (List.mem_cons_of_mem _ hx)) _)
    have he := h e (List.mem_cons_self ..)
    intro x hx
    split at hx
    · simp only [List.mem_singleton] at hx
      subst hx
      unfold Ok at *
      dsimp only
      omega
    · cases hx
theorem cutK_length (l : List Ext) (b : Int) : (cutK l b).length ≤ l.length := by
  induction l generalizing b with
  | nil => exact Nat.le_refl _
  | cons e l ih =>
    simp only [cutK, List.length_append, List.length_cons]
    have := ih (b - min b e.len)
    split <;> simp <;> omega
theorem cutL_length (l : List Ext) (b : Int) : (cutL l b).length ≤ l.length := by
  induction l generalizing b with
  | nil => exact Nat.le_refl _
  | cons e l ih =>
    simp only [cutL, List.length_append, List.length_cons]
    have := ih (b - min b e.len)
    split <;> simp <;> omega
theorem cutK_size {l : List Ext} (h : OkL l) (b : Int) (hb : 0 ≤ b) : sizeF (cutK l b) = min b (sizeF l) := by
  induction l generalizing b with
  | nil => simp only [cutK, sizeF]; omega
  | cons e l ih =>
    have hl : OkL l := fun x hx => h x (List.mem_cons_of_mem _ hx)
    have := sizeF_nonneg hl
    have he := h e (List.mem_cons_self ..)
    unfold Ok at he
    simp only [cutK, sizeF_append, sizeF]
    rw [ih hl _ (by omega)]
    split
    · simp only [sizeF]; omega
    · simp only [sizeF]; omega
theorem cutK_map {l : List Ext} (h : OkL l) (b i : Int) (hb : 0 ≤ b) (hi : 0 ≤ i) : mapF (cutK l b) i = if i < b then mapF l i else none := by
  induction l generalizing b i with
  | nil => simp only [cutK, mapF, ite_self]
  | cons e l ih =>
    have hl : OkL l := fun x hx => h x (List.mem_cons_of_mem _ hx)
    have he := h e (List.mem_cons_self ..)
    unfold Ok at he
    simp only [cutK]
    by_cases h0 : 0 < min b e.len
    · rw [if_pos h0]
      simp only [List.cons_append, List.nil_append, mapF]
      by_cases h1 : i < min b e.len
      · rw [if_pos h1, if_pos (by omega), if_pos (by omega)]
      · rw [if_neg h1, ih hl _ _ (by omega) (by omega)]
        by_cases h2 : i < b
        · rw [if_pos h2, if_pos (by omega), if_neg (by omega)]
          rw [show min b e.len = e.len by omega]
        · rw [if_neg h2, if_neg (by omega)]
    · rw [if_neg h0, List.nil_append, ih hl _ _ (by omega) hi]
      have hb0 : b = 0 := by omega
      subst hb0
      rw [if_neg (by omega), if_neg (by omega)]

end Go.Proofs.YtkfphmhnaelflacGreatDoor.Id
