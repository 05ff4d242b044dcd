/-
  The document's answers for layer 8: the sectors of an inode, a number in a list, whether an inode is right. No condition.
-/
import Derived.Test.YtkfphmhnaelflacGreatDoorIdSp
import Derived.Laws.MakeOwn
namespace Go.Proofs.YtkfphmhnaelflacGreatDoor.Id
open Go.ChangeShapes Go.WideShapes Go.ChangeAt Go.RowKit Go.Proofs.Fa

/-- A row of the document's extents; of numbers. -/
def RowR (w : World) (B : Nat) (v : Value) (l : List Ext) : Prop := w.ownsRow B 56 2 v l.length (ecells l)
def icells (xs : List Int) : List Value := xs.map (Value.int .i64)
def RowI (w : World) (B : Nat) (v : Value) (xs : List Int) : Prop := w.ownsRow B 3 1 v xs.length (icells xs)
theorem RowR.ext {w : World} {B : Nat} {l : List Ext} {g n cap : Nat} (h : RowR w B (.slice (some ⟨g, 0, none⟩) n cap) l) (k : Nat) (hk : k < l.length) : w.cell? ⟨g, k * 2, none⟩ = some (.int .i64 l[k].pos) ∧ w.cell? ⟨g, k * 2 + 1, none⟩ = some (.int .i64 l[k].len) := by
  have hc := World.ownsRow.cells (g := g) h rfl
  obtain ⟨h0, h1⟩ := ecells_at l k l[k] (List.getElem?_eq_getElem hk)
  have e0 := hc (k * 2) _ h0
  have e1 := hc (k * 2 + 1) _ h1
  simp only [Addr.add_lit, Nat.zero_add] at e0 e1
  exact ⟨e0, e1⟩
theorem RowI.int {w : World} {B : Nat} {xs : List Int} {g n cap : Nat} (h : RowI w B (.slice (some ⟨g, 0, none⟩) n cap) xs) (k : Nat) (hk : k < xs.length) : w.cell? ⟨g, k, none⟩ = some (.int .i64 xs[k]) := by
  have hc := World.ownsRow.cells (g := g) h rfl
  have e0 := hc k (.int .i64 xs[k]) (by simp [icells, hk])
  simp only [Addr.add_lit, Nat.zero_add] at e0
  exact e0

/-- All sectors, in order. -/
def secF : List Ext → List Int
  | [] => []
  | e :: r => (List.range e.len.toNat).map (fun k => e.pos + (k : Nat)) ++ secF r
/-- Where a number stands in a list, counted from a number on; -1. -/
def hasF : List Int → Int → Int → Int
  | [], _, _ => -1
  | x :: r, n, k => if x = n then k else hasF r n (k + 1)
theorem secF_length {l : List Ext} (h : OkL l) : ((secF l).length : Int) = sizeF l := by
  induction l with
  | nil => rfl
  | cons e r ih =>
    have he := h e (List.mem_cons_self ..)
    unfold Ok at he
    have := ih (fun x hx => h x (List.mem_cons_of_mem _ hx))
    simp only [secF, sizeF, List.length_append, List.length_map, List.length_range]
    omega
theorem secF_map {l : List Ext} (h : OkL l) (b : Nat) : mapF l b = (secF l)[b]? := by
  induction l generalizing b with
  | nil => simp [mapF, secF]
  | cons e r ih =>
    have he := h e (List.mem_cons_self ..)
    unfold Ok at he
    have hr : OkL r := fun x hx => h x (List.mem_cons_of_mem _ hx)
    simp only [mapF, secF]
    by_cases hb : (b : Int) < e.len
    · rw [if_pos hb, List.getElem?_append_left (by simp; omega), List.getElem?_map, List.getElem?_range (by omega)]
      rfl
    · rw [if_neg hb, List.getElem?_append_right (by simp; omega), ← ih hr]
      congr 1
      simp; omega
theorem hasF_append (a c : List Int) (n k : Int) (ha : ∀ x ∈ a, x ≠ n) : hasF (a ++ c) n k = hasF c n (k + a.length) := by
  induction a generalizing k with
  | nil => simp
  | cons x a ih =>
    simp only [List.cons_append, hasF]
    rw [if_neg (ha x (List.mem_cons_self ..)), ih _ (fun y hy => ha y (List.mem_cons_of_mem _ hy))]
    congr 1
    simp; omega
theorem hasF_in (a c : List Int) (n k : Int) (j : Nat) (hj : j < a.length) (hn : a[j] = n) (ha : ∀ i (hi : i < a.length), i < j → a[i] ≠ n) : hasF (a ++ c) n k = k + j := by
  induction a generalizing k j with
  | nil => simp at hj
  | cons x a ih =>
    cases j with
    | zero => simp only [List.getElem_cons_zero] at hn; simp [hasF, hn]
    | succ j =>
      have h0 := ha 0 (by simp) (by omega)
      simp only [List.getElem_cons_zero] at h0
      simp only [List.cons_append, hasF]
      rw [if_neg h0, ih (k + 1) j (by simpa using hj) (by simpa using hn) (fun i hi hij => by
        have := ha (i + 1) (by simp; omega) (by omega)
        simpa using this)]
      omega
theorem hasF_ge (a : List Int) (n k : Int) (hk : 0 ≤ k) : hasF a n k = -1 ∨ k ≤ hasF a n k := by
  induction a generalizing k with
  | nil => exact .inl rfl
  | cons x a ih =>
    simp only [hasF]
    split
    · exact .inr (Int.le_refl _)
    · rcases ih (k + 1) (by omega) with h | h
      · exact .inl h
      · exact .inr (by omega)
/-- A place, or none. -/
def optI (k : Int) : Option Int := if 0 ≤ k then some k else none
/-- The block of a sector is where it stands. -/
theorem secF_block {l : List Ext} (h : OkL l) (s k : Int) (hk : 0 ≤ k) : blockF l s k = optI (hasF (secF l) s k) := by
  induction l generalizing k with
  | nil => rfl
  | cons e r ih =>
    have he := h e (List.mem_cons_self ..)
    unfold Ok at he
    have hr : OkL r := fun x hx => h x (List.mem_cons_of_mem _ hx)
    have es : secF (e :: r) = (List.range e.len.toNat).map (fun k => e.pos + ((k : Nat) : Int)) ++ secF r := rfl
    rw [es]
    simp only [blockF]
    by_cases hs : e.pos ≤ s ∧ s < e.pos + e.len
    · rw [if_pos hs, hasF_in _ _ s k (s - e.pos).toNat (by simp; omega) (by simp; omega) (by intro i hi hij; simp; omega)]
      unfold optI
      rw [if_pos (by omega)]
      congr 1
      omega
    · rw [if_neg hs, hasF_append _ _ s k (by
        intro x hx
        obtain ⟨j, hj, rfl⟩ := List.mem_map.1 hx
        have := List.mem_range.1 hj
        omega), ih hr _ (by omega)]
      have e1 : k + e.len = k + (((List.range e.len.toNat).map (fun k => e.pos + ((k : Nat) : Int))).length : Int) := by simp; omega
      rw [e1]

variable {w : World} {B : Nat}
set_option maxRecDepth 100000
set_option maxHeartbeats 1000000

theorem hasF_take (xs : List Int) (n : Int) (k : Nat) (hk : k < xs.length) : hasF (xs.drop k) n k = if xs[k] = n then (k : Int) else hasF (xs.drop (k + 1)) n ((k + 1 : Nat) : Int) := by
  rw [List.drop_eq_getElem_cons hk]
  simp only [hasF]
  rw [Int.natCast_add]
  rfl

end Go.Proofs.YtkfphmhnaelflacGreatDoor.Id
