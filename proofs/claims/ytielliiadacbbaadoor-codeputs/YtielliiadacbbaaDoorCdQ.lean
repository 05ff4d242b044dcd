/-
  Layer 17: the program of any bytes of the right form. No condition. Nothing of the program.
-/
import Derived.Test.YtielliiadacbbaaDoorCdI
namespace Go.Proofs.YtielliiadacbbaaDoor.Cd
open Go.Proofs.YtielliiadacbbaaDoor.Le (putF getF leVal numF getF_putF getF_yes)

theorem leVal_inj : ∀ {xs ys : List UInt8}, xs.length = ys.length → leVal xs = leVal ys → xs = ys
  | [], [], _, _ => rfl
  | [], _ :: _, h, _ => by cases h
  | _ :: _, [], h, _ => by cases h
  | a :: xs, b :: ys, h, e => by
    simp only [leVal] at e
    have h1 := a.toNat_lt
    have h2 := b.toNat_lt
    have e1 : a = b := UInt8.toNat_inj.1 (by omega)
    have e2 := leVal_inj (by simpa using h) (show leVal xs = leVal ys by omega)
    rw [e1, e2]
/-- The bytes of the number of some bytes are these. -/
theorem put_leVal (xs : List UInt8) (k : Nat) (hk : xs.length = k) (h1 : 1 ≤ k) (h7 : k ≤ 7) : (putF (leVal xs : Int) k).data.toList = xs := by
  have hb := Le.leVal_lt xs
  rw [hk] at hb
  have hb' : (leVal xs : Int) < 2 ^ (8 * k) := by
    have := Int.ofNat_lt.2 hb
    simpa using this
  obtain ⟨_, hl, hg⟩ := numF_in [] (leVal xs : Int) k h1 h7 (Int.natCast_nonneg _) hb'
  rw [getF_yes (by show (putF (leVal xs : Int) (k : Nat)).data.size ≤ 7; rw [← Array.length_toList, hl]; exact h7)] at hg
  exact leVal_inj (by rw [hl, hk]) (Int.ofNat.inj hg)
/-- Byte i, as a number. -/
def byteI (s : ByteArray) (i : Nat) : Int := if h : i < s.size then (s[i].toNat : Int) else 0
theorem byteI_lt (s : ByteArray) (i : Nat) : 0 ≤ byteI s i ∧ byteI s i ≤ 255 := by
  unfold byteI
  split
  · rename_i h
    have := s[i].toNat_lt
    omega
  · omega
theorem byteI_yes {s : ByteArray} {i : Nat} (h : i < s.size) : byteI s i = (s[i].toNat : Int) := dif_pos h
/-- Instruction k of bytes. -/
def insOf (s : ByteArray) (k : Nat) : In4 := ⟨byteI s (8 * k), byteI s (8 * k + 1), byteI s (8 * k + 2), getF (s.extract (8 * k + 4) (8 * k + 8)) - 2147483648⟩
/-- The first n of them. -/
def progOf (s : ByteArray) (n : Nat) : List In4 := (List.range n).map (insOf s)
theorem progOf_length (s : ByteArray) (n : Nat) : (progOf s n).length = n := by simp [progOf]
theorem progOf_succ (s : ByteArray) (n : Nat) : progOf s (n + 1) = progOf s n ++ [insOf s n] := by simp [progOf, List.range_succ]
theorem progOf_get (s : ByteArray) (n i : Nat) (h : i < (progOf s n).length) : (progOf s n)[i] = insOf s i := by simp [progOf]
theorem insOf_imm (s : ByteArray) (k : Nat) (h : 8 * k + 8 ≤ s.size) : (s.extract (8 * k + 4) (8 * k + 8)).size = 4 ∧ -2147483648 ≤ (insOf s k).imm ∧ (insOf s k).imm ≤ 2147483647 := by
  have hz : (s.extract (8 * k + 4) (8 * k + 8)).size = 4 := by rw [ByteArray.size_extract]; omega
  refine ⟨hz, ?_⟩
  show -2147483648 ≤ getF (s.extract (8 * k + 4) (8 * k + 8)) - 2147483648 ∧ _ - 2147483648 ≤ _
  have hb := Le.leVal_lt (s.extract (8 * k + 4) (8 * k + 8)).data.toList
  rw [getF_yes (by omega)]
  rw [Array.length_toList, show (s.extract (8 * k + 4) (8 * k + 8)).data.size = 4 from hz] at hb
  have hb' : leVal (s.extract (8 * k + 4) (8 * k + 8)).data.toList < 4294967296 := hb
  omega
theorem byte_at {s : ByteArray} {a n j : Nat} (h : a + j < s.size) (hi : j < (s.extract a (a + n)).size) : (s.extract a (a + n))[j]'hi = s[a + j] := by
  rw [ByteArray.getElem_extract]
theorem insB_insOf (s : ByteArray) (k : Nat) (h : 8 * k + 8 ≤ s.size) (h3 : s[8 * k + 3] = 0) : insB (insOf s k) = (s.data.toList.drop (8 * k)).take 8 := by
  obtain ⟨hz, _⟩ := insOf_imm s k h
  have hb : ∀ i, (hi : i < s.size) → (putF (byteI s i) (1 : Nat)).data.toList = [s[i]] := fun i hi => by
    have := put_leVal [s[i]] 1 rfl (by decide) (by decide)
    rw [byteI_yes hi]
    simpa [leVal] using this
  have he : (s.extract (8 * k + 4) (8 * k + 8)).data.toList = (s.data.toList.drop (8 * k + 4)).take 4 := by
    rw [extract_data, show 8 * k + 8 - (8 * k + 4) = 4 by omega]
  have hq : (putF ((insOf s k).imm + 2147483648) (4 : Nat)).data.toList = (s.data.toList.drop (8 * k + 4)).take 4 := by
    show (putF (getF (s.extract (8 * k + 4) (8 * k + 8)) - 2147483648 + 2147483648) (4 : Nat)).data.toList = _
    rw [Int.sub_add_cancel, getF_yes (by omega), put_leVal _ 4 (by rw [Array.length_toList]; exact hz) (by decide) (by decide), he]
  have h0 : (putF 0 (1 : Nat)).data.toList = [0] := by decide +kernel
  have hd : s.data.toList.drop (8 * k) = s[8 * k] :: s[8 * k + 1] :: s[8 * k + 2] :: 0 :: s.data.toList.drop (8 * k + 4) := by
    rw [Le.drop_cons s (8 * k) (by omega), Le.drop_cons s (8 * k + 1) (by omega), Le.drop_cons s (8 * k + 2) (by omega), Le.drop_cons s (8 * k + 3) (by omega), h3]
  rw [hd]
  show (putF (byteI s (8 * k)) (1 : Nat)).data.toList ++ (putF (byteI s (8 * k + 1)) (1 : Nat)).data.toList ++ (putF (byteI s (8 * k + 2)) (1 : Nat)).data.toList ++ (putF 0 (1 : Nat)).data.toList ++ _ = _
  rw [hb _ (by omega), hb _ (by omega), hb _ (by omega), h0, hq]
  rfl
theorem progB_progOf (s : ByteArray) : ∀ (n : Nat) (_ : 8 * n ≤ s.size) (_ : ∀ k, k < n → ∀ hi, s[8 * k + 3]'hi = 0), progB (progOf s n) = s.data.toList.take (8 * n)
  | 0, _, _ => rfl
  | n + 1, h, h3 => by
    rw [progOf_succ, progB_append, progB_progOf s n (by omega) (fun k hk hi => h3 k (by omega) hi)]
    show _ ++ (insB (insOf s n) ++ []) = _
    rw [List.append_nil, insB_insOf s n (by omega) (h3 n (by omega) (by omega)), show 8 * (n + 1) = 8 * n + 8 by omega, List.take_add]
theorem progB_all {s : ByteArray} {n : Nat} (h : s.size = 8 * n) (h3 : ∀ k, k < n → ∀ hi, s[8 * k + 3]'hi = 0) : (⟨(progB (progOf s n)).toArray⟩ : ByteArray) = s := by
  apply ext_bytes
  show progB (progOf s n) = _
  rw [progB_progOf s n (by omega) h3, List.take_of_length_le (by rw [Array.length_toList]; show s.size ≤ _; omega)]

end Go.Proofs.YtielliiadacbbaaDoor.Cd
