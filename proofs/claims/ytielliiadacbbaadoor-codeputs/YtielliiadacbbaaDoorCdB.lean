/-
  Layer 17's bytes: those of an instruction, and of a program; what they tell. No condition.
-/
import Derived.Test.YtielliiadacbbaaDoorLeOut
import Derived.Test.YtielliiadacbbaaDoorCdP
namespace Go.Proofs.YtielliiadacbbaaDoor.Cd
open Go.ChangeShapes Go.WideShapes Go.ChangeAt Go.RowKit
open Go.Proofs.YtielliiadacbbaaDoor.Le (putF getF leVal numF textF getF_putF putF_in)

theorem len_of {b : ByteArray} {k : Nat} (h : b.size = k) : b.data.toList.length = k := by rw [Array.length_toList]; exact h
/-- A number that fits goes behind what there is. -/
theorem numF_in (xs : List UInt8) (n : Int) (k : Nat) (h1 : 1 ≤ k) (h7 : k ≤ 7) (h0 : 0 ≤ n) (h : n < 2 ^ (8 * k)) : numF (some xs) n k = some (xs ++ (putF n k).data.toList) ∧ (putF n k).data.toList.length = k ∧ getF (putF n k) = n := by
  obtain ⟨_, hz, hn⟩ := putF_in (x := n) (k := k) (by omega) (by omega) h0 (by rw [show (8 * (k : Int)).toNat = 8 * k by omega]; exact h)
  rw [Int.toNat_natCast] at hz
  refine ⟨?_, len_of hz, getF_putF hn⟩
  unfold numF
  rw [if_neg hn]
  show (if ((putF n k).size : Int) ≤ k then some (xs ++ (putF n k).data.toList ++ List.replicate ((k : Int) - (putF n k).size).toNat 0) else none) = _
  rw [hz, if_pos (by omega), Int.sub_self]
  simp

/-- The bytes of an instruction, part by part. -/
def insA (x : In4) : List UInt8 := (putF x.op (1 : Nat)).data.toList
def insD (x : In4) : List UInt8 := insA x ++ (putF x.d (1 : Nat)).data.toList
def insS (x : In4) : List UInt8 := insD x ++ (putF x.s (1 : Nat)).data.toList
def insN (x : In4) : List UInt8 := insS x ++ (putF 0 (1 : Nat)).data.toList
def insB (x : In4) : List UInt8 := insN x ++ (putF (x.imm + 2147483648) (4 : Nat)).data.toList
def progB (l : List In4) : List UInt8 := l.flatMap insB
theorem progB_append (l m : List In4) : progB (l ++ m) = progB l ++ progB m := by simp [progB]
theorem progB_succ (l : List In4) (k : Nat) (hk : k < l.length) : progB (l.take (k + 1)) = progB (l.take k) ++ insB l[k] := by
  rw [List.take_succ_eq_append_getElem hk, progB_append]
  simp [progB]

section
variable {x : In4} (h : RightP x)
include h
theorem parts : (putF x.op (1 : Nat)).data.toList.length = 1 ∧ (putF x.d (1 : Nat)).data.toList.length = 1 ∧ (putF x.s (1 : Nat)).data.toList.length = 1 ∧ (putF 0 (1 : Nat)).data.toList.length = 1 ∧ (putF (x.imm + 2147483648) (4 : Nat)).data.toList.length = 4 := by
  have hi := h.imm
  exact ⟨(numF_in [] x.op 1 (by decide) (by decide) h.1.1 (by have := h.1.2; show x.op < 256; omega)).2.1, (numF_in [] x.d 1 (by decide) (by decide) h.2.1.1 (by have := h.2.1.2; show x.d < 256; omega)).2.1,
    (numF_in [] x.s 1 (by decide) (by decide) h.2.2.1.1 (by have := h.2.2.1.2; show x.s < 256; omega)).2.1, (numF_in [] 0 1 (by decide) (by decide) (by decide) (by decide)).2.1,
    (numF_in [] (x.imm + 2147483648) 4 (by decide) (by decide) (by omega) (by show x.imm + 2147483648 < 4294967296; omega)).2.1⟩
theorem insB_length : (insB x).length = 8 := by
  obtain ⟨h1, h2, h3, h4, h5⟩ := parts h
  simp only [insB, insN, insS, insD, insA, List.length_append, h1, h2, h3, h4, h5]
end

theorem progB_length {l : List In4} (h : ∀ x ∈ l, RightP x) : (progB l).length = 8 * l.length := by
  induction l with
  | nil => rfl
  | cons x r ih =>
    show (insB x ++ progB r).length = _
    rw [List.length_append, insB_length (h x (List.mem_cons_self ..)), ih (fun y hy => h y (List.mem_cons_of_mem _ hy)), List.length_cons]
    omega
theorem get_same {a b : Int} {k : Nat} (h1 : 1 ≤ k) (h7 : k ≤ 7) (ha : 0 ≤ a) (ha2 : a < 2 ^ (8 * k)) (hb : 0 ≤ b) (hb2 : b < 2 ^ (8 * k)) (e : (putF a k).data.toList = (putF b k).data.toList) : a = b := by
  have e2 : putF a k = putF b k := by
    have : (putF a k).data = (putF b k).data := Array.toList_inj.1 e
    cases hx : putF a k
    cases hy : putF b k
    rw [hx, hy] at this
    simp only at this
    rw [this]
  rw [← (numF_in [] a k h1 h7 ha ha2).2.2, ← (numF_in [] b k h1 h7 hb hb2).2.2, e2]
theorem insB_inj {x y : In4} (hx : RightP x) (hy : RightP y) (e : insB x = insB y) : x = y := by
  obtain ⟨h1, h2, h3, h4, h5⟩ := parts hx
  obtain ⟨k1, k2, k3, k4, k5⟩ := parts hy
  have i1 := hx.imm
  have i2 := hy.imm
  obtain ⟨e1, e5⟩ := List.append_inj e (by simp only [insN, insS, insD, insA, List.length_append, h1, h2, h3, h4, k1, k2, k3])
  obtain ⟨e1, e4⟩ := List.append_inj e1 (by simp only [insS, insD, insA, List.length_append, h1, h2, h3, k1, k2, k3])
  obtain ⟨e1, e3⟩ := List.append_inj e1 (by simp only [insD, insA, List.length_append, h1, h2, k1, k2])
  obtain ⟨e1, e2⟩ := List.append_inj e1 (by simp only [insA, h1, k1])
  have q1 := get_same (by decide) (by decide) hx.1.1 (by have := hx.1.2; show x.op < 256; omega) hy.1.1 (by have := hy.1.2; show y.op < 256; omega) e1
  have q2 := get_same (by decide) (by decide) hx.2.1.1 (by have := hx.2.1.2; show x.d < 256; omega) hy.2.1.1 (by have := hy.2.1.2; show y.d < 256; omega) e2
  have q3 := get_same (by decide) (by decide) hx.2.2.1.1 (by have := hx.2.2.1.2; show x.s < 256; omega) hy.2.2.1.1 (by have := hy.2.2.1.2; show y.s < 256; omega) e3
  have q5 := get_same (by decide) (by decide) (by omega) (by show x.imm + 2147483648 < 4294967296; omega) (by omega) (by show y.imm + 2147483648 < 4294967296; omega) e5
  cases x
  cases y
  simp only [In4.mk.injEq]
  exact ⟨q1, q2, q3, by simp only at q5; omega⟩
theorem progB_inj : ∀ {l m : List In4}, (∀ x ∈ l, RightP x) → (∀ x ∈ m, RightP x) → progB l = progB m → l = m
  | [], [], _, _, _ => rfl
  | [], y :: m, _, hm, e => by
    have := congrArg List.length e
    rw [progB_length hm] at this
    simp [progB] at this
  | x :: l, [], hl, _, e => by
    have := congrArg List.length e
    rw [progB_length hl] at this
    simp [progB] at this
  | x :: l, y :: m, hl, hm, e => by
    have hx := hl x (List.mem_cons_self ..)
    have hy := hm y (List.mem_cons_self ..)
    obtain ⟨e1, e2⟩ := List.append_inj (show insB x ++ progB l = insB y ++ progB m from e) (by rw [insB_length hx, insB_length hy])
    rw [insB_inj hx hy e1, progB_inj (fun z hz => hl z (List.mem_cons_of_mem _ hz)) (fun z hz => hm z (List.mem_cons_of_mem _ hz)) e2]

theorem progB_cut (l : List In4) (k : Nat) (hk : k < l.length) : progB l = progB (l.take k) ++ (insB l[k] ++ progB (l.drop (k + 1))) := by
  conv => lhs; rw [← List.take_append_drop k l, List.drop_eq_getElem_cons hk]
  rw [progB_append]
  rfl
theorem take_right {l : List In4} (h : ∀ x ∈ l, RightP x) (k : Nat) : ∀ x ∈ l.take k, RightP x := fun x hx => h x (List.mem_of_mem_take hx)
theorem byte3 {l : List In4} (h : ∀ x ∈ l, RightP x) (k : Nat) (hk : k < l.length) : (progB l)[8 * k + 3]? = some 0 := by
  have hl : (progB (l.take k)).length = 8 * k := by rw [progB_length (take_right h k), List.length_take]; omega
  have hx := h l[k] (List.getElem_mem hk)
  obtain ⟨p1, p2, p3, p4, _⟩ := parts hx
  have hs : (insS l[k]).length = 3 := by simp only [insS, insD, insA, List.length_append, p1, p2, p3]
  rw [progB_cut l k hk, List.getElem?_append_right (by omega), hl, show 8 * k + 3 - 8 * k = 3 by omega]
  show ((insS l[k] ++ (putF 0 (1 : Nat)).data.toList ++ _) ++ _)[3]? = _
  rw [List.append_assoc, List.append_assoc, List.getElem?_append_right (by omega), hs, show (putF 0 (1 : Nat)).data.toList = [0] by decide +kernel]
  rfl
theorem s_get (xs : List UInt8) (i : Nat) (v : UInt8) (hi : i < (⟨xs.toArray⟩ : ByteArray).size) (hv : xs[i]? = some v) : (⟨xs.toArray⟩ : ByteArray)[i] = v := by
  have hl : i < xs.length := by
    rcases Nat.lt_or_ge i xs.length with h | h
    · exact h
    · rw [List.getElem?_eq_none h] at hv; cases hv
  rw [List.getElem?_eq_getElem hl] at hv
  show (xs.toArray[i]'_) = v
  rw [List.getElem_toArray]
  exact Option.some.inj hv

end Go.Proofs.YtielliiadacbbaaDoor.Cd
