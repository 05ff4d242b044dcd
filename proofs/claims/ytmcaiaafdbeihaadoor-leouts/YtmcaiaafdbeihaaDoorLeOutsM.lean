/-
  What LeOuts' items come to: plain mathematics over le's contracts. No condition.
-/
import Derived.Test.YtmcaiaafdbeihaaDoorLeCode
import Derived.Test.YtmcaiaafdbeihaaDoorLeItems
namespace Go.Proofs.YtmcaiaafdbeihaaDoor.Le
open Go.RowKit

/-- An item as the statement takes it: the text cut to 50 bytes, the size to 60. -/
def cutT (it : Item) : ByteArray := it.text.extract 0 (min it.text.size 50)
def cutS (it : Item) : Int := min it.size 60

/-- The bytes of an item; none, where it doesn't go into its size. -/
def pieceF (it : Item) : Option (List UInt8) :=
  if it.isText then (if ((cutT it).size : Int) ≤ cutS it then some ((cutT it).data.toList ++ List.replicate (cutS it - (cutT it).size).toNat 0) else none)
  else if putF it.n (cutS it) = ByteArray.empty then none else some (putF it.n (cutS it)).data.toList

/-- An Out behind an item. -/
def stepF (st : Option (List UInt8)) (it : Item) : Option (List UInt8) := st.bind fun xs => (pieceF it).map (xs ++ ·)

/-- The Out behind the first k items. -/
def stAt (L : Nat → Item) : Nat → Option (List UInt8)
  | 0 => some []
  | k + 1 => stepF (stAt L k) (L k)

theorem putF_size {n s : Int} (h : putF n s ≠ ByteArray.empty) : ((putF n s).size : Int) = s ∧ 1 ≤ s ∧ s ≤ 7 := by
  by_cases hv : 1 ≤ s ∧ s ≤ 7 ∧ 0 ≤ n ∧ n / 2 ^ (8 * s.toNat) = 0
  · obtain ⟨h1, h7, h0, hd⟩ := hv
    rw [putF_yes h1 h7 h0 hd, strOfNums_ne]
    exact ⟨by omega, h1, h7⟩
  · exact absurd (putF_no hv) h

theorem piece_text {it : Item} (h : it.isText = true) : pieceF it = if ((cutT it).size : Int) ≤ cutS it then some ((cutT it).data.toList ++ List.replicate (cutS it - (cutT it).size).toNat 0) else none := by
  unfold pieceF; rw [if_pos h]
theorem piece_num {it : Item} (h : it.isText = false) : pieceF it = if putF it.n (cutS it) = ByteArray.empty then none else some (putF it.n (cutS it)).data.toList := by
  unfold pieceF; rw [if_neg (by rw [h]; decide)]
theorem textF_some (xs : List UInt8) (b : ByteArray) (size : Int) : textF (some xs) b size = if (b.size : Int) ≤ size then some (xs ++ b.data.toList ++ List.replicate (size - b.size).toNat 0) else none := rfl

theorem step_text (st : Option (List UInt8)) (it : Item) (h : it.isText = true) : textF st (cutT it) (cutS it) = stepF st it := by
  cases st with
  | none => rfl
  | some xs =>
    rw [textF_some, stepF, piece_text h]
    by_cases hs : ((cutT it).size : Int) ≤ cutS it
    · rw [if_pos hs, if_pos hs]; simp
    · rw [if_neg hs, if_neg hs]; rfl

theorem step_num (st : Option (List UInt8)) (it : Item) (h : it.isText = false) : numF st it.n (cutS it) = stepF st it := by
  rw [numF, stepF, piece_num h]
  by_cases he : putF it.n (cutS it) = ByteArray.empty
  · rw [if_pos he, if_pos he]; cases st <;> rfl
  · rw [if_neg he, if_neg he]
    cases st with
    | none => rfl
    | some xs =>
      obtain ⟨h1, _, _⟩ := putF_size he
      rw [textF_some, if_pos (by omega), show (cutS it - ((putF it.n (cutS it)).size : Int)).toNat = 0 by omega]
      simp

theorem piece_le {it : Item} {p : List UInt8} (h : pieceF it = some p) : p.length ≤ 60 ∧ ((p.length : Int) = cutS it) := by
  have hc : cutS it ≤ 60 := by unfold cutS; omega
  by_cases hi : it.isText = true
  · rw [piece_text hi] at h
    split at h
    · rename_i hs
      obtain rfl := Option.some.inj h
      simp only [List.length_append, List.length_replicate, Array.length_toList]
      have : (cutT it).data.size = (cutT it).size := rfl
      omega
    · cases h
  · rw [piece_num (by simpa using hi)] at h
    split at h
    · cases h
    · rename_i he
      obtain rfl := Option.some.inj h
      obtain ⟨h1, h2, h3⟩ := putF_size he
      have : (putF it.n (cutS it)).data.toList.length = (putF it.n (cutS it)).size := by simp
      omega

theorem stAt_len (L : Nat → Item) : ∀ k xs, stAt L k = some xs → xs.length ≤ 60 * k := by
  intro k
  induction k with
  | zero => intro xs h; obtain rfl := Option.some.inj h; simp
  | succ k ih =>
    intro xs h
    simp only [stAt, stepF] at h
    cases hk : stAt L k with
    | none => rw [hk] at h; cases h
    | some ys =>
      rw [hk] at h
      cases hp : pieceF (L k) with
      | none => rw [hp] at h; cases h
      | some p =>
        rw [hp] at h
        obtain rfl := Option.some.inj h
        have := ih ys hk
        have := (piece_le hp).1
        simp only [List.length_append]; omega

/-- The bytes of n items from the j-th on. -/
def cat (L : Nat → Item) : Nat → Nat → List UInt8
  | _, 0 => []
  | j, n + 1 => (pieceF (L j)).getD [] ++ cat L (j + 1) n

theorem cat_snoc (L : Nat → Item) : ∀ n j, cat L j (n + 1) = cat L j n ++ (pieceF (L (j + n))).getD [] := by
  intro n
  induction n with
  | zero => intro j; simp [cat]
  | succ n ih =>
    intro j
    rw [cat, ih (j + 1), cat, List.append_assoc, show j + 1 + n = j + (n + 1) by omega]

theorem stAt_cat (L : Nat → Item) : ∀ k xs, stAt L k = some xs → xs = cat L 0 k ∧ ∀ j, j < k → ∃ p, pieceF (L j) = some p := by
  intro k
  induction k with
  | zero => intro xs h; obtain rfl := Option.some.inj h; exact ⟨rfl, fun j hj => absurd hj (Nat.not_lt_zero _)⟩
  | succ k ih =>
    intro xs h
    simp only [stAt, stepF] at h
    cases hk : stAt L k with
    | none => rw [hk] at h; cases h
    | some ys =>
      rw [hk] at h
      cases hp : pieceF (L k) with
      | none => rw [hp] at h; cases h
      | some p =>
        rw [hp] at h
        obtain rfl := Option.some.inj h
        obtain ⟨rfl, hall⟩ := ih ys hk
        refine ⟨by rw [cat_snoc, Nat.zero_add, hp]; rfl, fun j hj => ?_⟩
        rcases Nat.lt_or_ge j k with h1 | h1
        · exact hall j h1
        · obtain rfl : j = k := by omega
          exact ⟨p, hp⟩

theorem extract_left (p r : List UInt8) : (⟨(p ++ r).toArray⟩ : ByteArray).extract 0 p.length = ⟨p.toArray⟩ := by
  apply ByteArray.ext
  rw [ByteArray.data_extract]
  simp
theorem extract_right (p r : List UInt8) : (⟨(p ++ r).toArray⟩ : ByteArray).extract p.length (⟨(p ++ r).toArray⟩ : ByteArray).size = ⟨r.toArray⟩ := by
  apply ByteArray.ext
  rw [ByteArray.data_extract]
  simp [ByteArray.size]

/-- A piece is read as it was put. -/
theorem take_piece (it : Item) (p r : List UInt8) (h : pieceF it = some p) : takeF ⟨(p ++ r).toArray⟩ 0 (cutS it) = (⟨p.toArray⟩, ⟨r.toArray⟩, 0) := by
  have hl := (piece_le h).2
  have hs : ((⟨(p ++ r).toArray⟩ : ByteArray).size : Int) = p.length + r.length := by simp [ByteArray.size]
  unfold takeF
  rw [if_neg (by simp), if_neg (by omega), if_neg (by omega), show (cutS it).toNat = p.length by omega, extract_left, extract_right]

theorem num_piece (it : Item) (p r : List UInt8) (hi : it.isText = false) (h : pieceF it = some p) : inNumF ⟨(p ++ r).toArray⟩ 0 (cutS it) = (it.n, ⟨r.toArray⟩, 0) := by
  have ht := take_piece it p r h
  rw [piece_num hi] at h
  split at h
  · cases h
  · rename_i he
    obtain ⟨_, h1, h7⟩ := putF_size he
    obtain rfl := Option.some.inj h
    rw [inNumF, if_pos ⟨h1, h7⟩, ht]
    simp only [Array.toArray_toList]
    rw [getF_putF he]

theorem text_piece (it : Item) (p : List UInt8) (hi : it.isText = true) (h : pieceF it = some p) : (cutT it).size ≤ p.length ∧ (⟨p.toArray⟩ : ByteArray).extract 0 (cutT it).size = cutT it := by
  rw [piece_text hi] at h
  split at h
  · obtain rfl := Option.some.inj h
    have e : (cutT it).data.toList.length = (cutT it).size := by simp
    refine ⟨by simp, ?_⟩
    rw [← e, extract_left]
  · cases h

theorem cutT_cases (it : Item) : ((it.text.size : Int) ≤ 50 ∧ cutT it = it.text) ∨ ((50 : Int) < it.text.size ∧ cutT it = it.text.extract 0 50) := by
  by_cases h : (it.text.size : Int) ≤ 50
  · refine .inl ⟨h, ?_⟩
    rw [cutT, Nat.min_eq_left (by omega)]
    exact ByteArray.extract_zero_size
  · refine .inr ⟨by omega, ?_⟩
    rw [cutT, Nat.min_eq_right (by omega)]

theorem cutS_cases (it : Item) : (it.size ≤ 60 ∧ cutS it = it.size) ∨ ((60 : Int) < it.size ∧ cutS it = 60) := by
  unfold cutS; omega

theorem cutT_size (it : Item) : (cutT it).size ≤ 50 := by
  rw [cutT]; simp; omega

end Go.Proofs.YtmcaiaafdbeihaaDoor.Le
