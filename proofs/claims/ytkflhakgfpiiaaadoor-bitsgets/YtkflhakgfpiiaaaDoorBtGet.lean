/-
  Is a number taken that isn't below the bound? The set of a sector. Condition: the table of four steps holds what its initialiser lays.
-/
import Derived.Test.YtkflhakgfpiiaaaDoorBtRef2
import Derived.Test.YtkflhakgfpiiaaaDoorBtP
import Derived.Test.YtkflhakgfpiiaaaDoorBtN
import Derived.Laws.CopyRow
namespace Go.Proofs.YtkflhakgfpiiaaaDoor.Bt
open Go.ChangeShapes Go.WideShapes Go.ChangeAt Go.RowKit Go.Proofs.Fa
open Go.Proofs.YtkflhakgfpiiaaaDoor.Mk (NibAt openF openM_any)

variable {w : World}
set_option maxRecDepth 100000
set_option maxHeartbeats 1000000

/-- A number is taken that isn't below the bound. -/
def beyB (B : Nat → Nat) (n : Nat) : Bool := (List.range (4032 - n)).any (fun i => tk B (n + i))
theorem beyB_no {B : Nat → Nat} {n : Nat} (h : ∀ i, n ≤ i → i < 4032 → tk B i = false) : beyB B n = false := by
  unfold beyB
  rw [List.any_eq_false]
  intro i hi
  rw [h (n + i) (by omega) (by have := List.mem_range.1 hi; omega)]
  decide
theorem beyB_yes {B : Nat → Nat} {n i : Nat} (h1 : n ≤ i) (h2 : i < 4032) (h : tk B i = true) : beyB B n = true := by
  unfold beyB
  rw [List.any_eq_true]
  exact ⟨i - n, List.mem_range.2 (by omega), by rw [show n + (i - n) = i by omega]; exact h⟩
theorem beyB_free {B : Nat → Nat} {n : Nat} (h : beyB B n = false) (i : Nat) (h1 : n ≤ i) (h2 : i < 4032) : tk B i = false := by
  cases ht : tk B i
  · rfl
  · rw [beyB_yes h1 h2 ht] at h; cases h

theorem beyond_any (b n : Nat) (B : Nat → Nat) (h : SetAt w b n B) :
    Calls Tryd.prog 34 #[.pointer (some ⟨b, 0, none⟩)] w fun r w' => r = .returned (.bool (beyB B n)) ∧ Below w.heap.size w w' := by
  have hmx : n ≤ 4000 := by obtain ⟨c, _, hs⟩ := h; exact hs.max
  have HS : Hid (SetAt w b n B) := h
  have HC : Hid (∀ W, Below w.heap.size w W → ∀ j, j < 504 → W.cell? ⟨b, 1 + j, none⟩ = some (.int .u8 (B j))) := fun W hW j hj => by
    obtain ⟨c, hc, hs⟩ := HS.out.below hW (Nat.le_refl _)
    exact cell_of_heap hc (1 + j) _ (hs.byte j hj)
  have HSM : Hid (∀ j, B j < 256) := by obtain ⟨c, _, hs⟩ := h; exact hs.small
  have c0 : w.cell? ⟨b, 0, none⟩ = some (.int .i64 n) := by obtain ⟨c, hc, hs⟩ := h; exact cell_of_heap hc 0 _ hs.bound
  clear h
  go_enter Tryd.func34, Tryd.ntmps34
  go_wp2_with fail
  go_loopw [3] (fun j wr => ∃ k : Nat, n ≤ k ∧ k ≤ 4032 ∧ j = .int .i64 k ∧ (∀ i, n ≤ i → i < k → tk B i = false) ∧ Below w.heap.size w wr) (fun j _ => 4032 - (intOf j).toNat)
  case atStart => exact ⟨n, Nat.le_refl _, by omega, rfl, fun i h1 h2 => by omega, Below.refl _ _⟩
  case round =>
    obtain ⟨k, hk1, hk2, rfl, hall, hb⟩ := hrel
    have HA : Hid (∀ i, n ≤ i → i < k → tk B i = false) := hall
    have HB : Hid (Below w.heap.size w wr) := hb
    clear hall hb c0
    by_cases hlt : k < 4032
    · have cb := HC.out _ HB.out (k / 8) (by omega)
      have HR : Hid ((bits .and .u8 (B (k / 8) : Int) ((2 ^ (k % 8) : Nat) : Int) != 0) = tk B k) := and_bit _ _ (HSM.out _) (by omega)
      have hx8 : ((k / 8 : Nat) : Int) < 504 := by omega
      have HB1 : Hid (Below w.heap.size w wr.drew) := HB.out.drew
      generalize hbb : ((2 ^ (k % 8) : Nat) : Int) = pb at *
      generalize B (k / 8) = y at *
      have HBIT := bit_any k wr (by omega)
      rw [hbb] at HBIT
      clear hbb
      cases ht : tk B k
      · have HN : Hid (∀ i, n ≤ i → i < k + 1 → tk B i = false) := by
          intro i h1 h2
          by_cases hik : i < k
          · exact HA.out i h1 hik
          · rw [show i = k by omega]; exact ht
        rw [ht] at HR
        have hr0 := HR.out
        clear ht HR
        go_wp2_with fail
        refine HBIT.mono ?_
        rintro r w2 ⟨rfl, hw2⟩
        subst hw2
        clear HBIT
        go_wp2
        go_roundw
        case rel => exact ⟨k + 1, by omega, by omega, by go_num, HN.out, HB1.out⟩
        case measure => simp [intOf]; omega
      · have HF : Hid (beyB B n = true) := beyB_yes hk1 hlt ht
        rw [ht] at HR
        have hr0 := HR.out
        clear ht HR
        go_wp2_with fail
        refine HBIT.mono ?_
        rintro r w2 ⟨rfl, hw2⟩
        subst hw2
        clear HBIT
        go_wp2
        go_ret
        exact ⟨by rw [HF.out]; rfl, HB1.out⟩
    · obtain rfl : k = 4032 := by omega
      have HF : Hid (beyB B n = false) := beyB_no HA.out
      go_wp2
      go_ret
      exact ⟨by rw [HF.out]; rfl, HB.out⟩

/-- The numbers of a text's bytes. -/
def strB (s : ByteArray) (j : Nat) : Nat := (s.data.toList[j]?.getD 0).toNat
def strC (s : ByteArray) : List Value := s.data.toList.map fun b => .int .u8 b.toNat
theorem strC_length (s : ByteArray) : (strC s).length = s.size := by unfold strC; rw [List.length_map, Array.length_toList]; rfl
theorem strC_at (s : ByteArray) (j : Nat) (hj : j < s.size) : (strC s)[j]? = some (.int .u8 (strB s j)) := by
  have hj' : j < s.data.toList.length := by rw [Array.length_toList]; exact hj
  unfold strC strB
  rw [List.getElem?_map, List.getElem?_eq_getElem hj']
  rfl
theorem strB_lt (s : ByteArray) (j : Nat) : strB s j < 256 := by unfold strB; exact UInt8.toNat_lt _
theorem strC_one (s : ByteArray) : ∀ v ∈ strC s, v.oneCell' = true := by
  intro v hv
  obtain ⟨x, _, rfl⟩ := List.mem_map.1 hv
  rfl
theorem run_copy_str (w : World) (dT sT ty elem : TypeId) (g o dCap : Nat) (s : ByteArray) (cur : Array Value) (t : TypeId) (hu : Tryd.prog.underlying dT = some (.slice elem)) (hs : (Tryd.prog.info? elem).map (·.size) = some 1)
    (hg : w.heap[g]? = some (.cells cur t (0, 0))) (hfit : o + s.size ≤ cur.size) :
    (Builtin.copy_ #[dT, sT] ty #[.slice (some ⟨g, o, none⟩) s.size dCap, .string s]).run Tryd.prog w = .ok (goInt s.size) (w.setRow g (cur.toList.take o ++ strC s ++ cur.toList.drop (o + (strC s).length)).toArray) := by
  have hst := run_storeCells_at Tryd.prog g o t (strC s) 0 cur w hg (by rw [strC_length]; simpa using hfit) (strC_one s)
  have ht : List.take s.size (List.map (fun b => Value.int IntKind.u8 ((b.toNat : Nat) : Int)) s.data.toList) = strC s := List.take_of_length_le (by rw [List.length_map, Array.length_toList]; exact Nat.le_refl _)
  cases hq : Tryd.prog.info? elem with
  | none => simp [hq] at hs
  | some i =>
    have hi : i.size = 1 := by simpa [hq] using hs
    have hmin : Nat.min s.size s.size = s.size := Nat.min_self _
    simp [Builtin.copy_, run_underlying hu, Builtin.lenOf, Builtin.firstCells, sizeOf, typeInfo, hq, hmin, ht, hst]

theorem copied_ok {c : Array Value} {n : Nat} {B : Nat → Nat} (h : SetC c n B) (s : ByteArray) (hs : s.size = 504) : SetC (c.toList.take 1 ++ strC s ++ c.toList.drop (1 + (strC s).length)).toArray n (strB s) := by
  have hl : (c.toList.take 1).length = 1 := by simp [h.size]
  refine ⟨?_, ?_, fun j hj => ?_, strB_lt s, h.max⟩
  · simp [strC_length, hs, h.size]
  · rw [List.getElem?_toArray, List.append_assoc, List.getElem?_append_left (by omega)]
    have := h.bound
    rw [List.getElem?_take_of_lt (by decide), Array.getElem?_toList]
    exact this
  · rw [List.getElem?_toArray, List.append_assoc, List.getElem?_append_right (by omega), hl, Nat.add_sub_cancel_left, List.getElem?_append_left (by rw [strC_length]; omega)]
    exact strC_at s j (by omega)

end Go.Proofs.YtkflhakgfpiiaaaDoor.Bt
