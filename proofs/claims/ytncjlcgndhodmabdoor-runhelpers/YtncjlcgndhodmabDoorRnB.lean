/-
  Layer 20's begin, of a program without loops: the machine ahead of the first instruction. Condition: the program and the key are short.
-/
import Derived.Test.YtncjlcgndhodmabDoorRnE
import Derived.Laws.Strings
namespace Go.Proofs.YtncjlcgndhodmabDoor.Rn
open Go.ChangeShapes Go.WideShapes Go.ChangeAt Go.RowKit
open Go.Proofs.YtncjlcgndhodmabDoor.Cd
open Go.Proofs.YtncjlcgndhodmabDoor.Nv (lt_of_heap lt_of_cell cell_of_heap free_of_heap)

set_option maxRecDepth 100000
set_option maxHeartbeats 2000000

/-- The numbers of a text's bytes. -/
def strN (s : ByteArray) (j : Nat) : Nat := (s.data.toList[j]?.getD 0).toNat
def strC (s : ByteArray) : List Value := s.data.toList.map fun b => .int .u8 b.toNat
theorem strC_length (s : ByteArray) : (strC s).length = s.size := by unfold strC; rw [List.length_map, Array.length_toList]; rfl
theorem strC_at (s : ByteArray) (j : Nat) (hj : j < s.size) : (strC s)[j]? = some (.int .u8 (strN s j)) := by
  have hj' : j < s.data.toList.length := by rw [Array.length_toList]; exact hj
  unfold strC strN
  rw [List.getElem?_map, List.getElem?_eq_getElem hj']
  rfl
theorem strN_no (s : ByteArray) (j : Nat) (hj : s.size ≤ j) : strN s j = 0 := by
  have hj' : s.data.toList.length ≤ j := by rw [Array.length_toList]; exact hj
  unfold strN
  rw [List.getElem?_eq_none hj']
  rfl
theorem strC_one (s : ByteArray) : ∀ v ∈ strC s, v.oneCell' = true := by
  intro v hv
  obtain ⟨x, _, rfl⟩ := List.mem_map.1 hv
  rfl
/-- A row laid over cells from a place on. -/
def laidR (c : Array Value) (o : Nat) (X : List Value) : Array Value := (c.toList.take o ++ X ++ c.toList.drop (o + X.length)).toArray
theorem laidR_size {c : Array Value} {o : Nat} {X : List Value} (h : o + X.length ≤ c.size) : (laidR c o X).size = c.size := by
  unfold laidR
  simp
  omega
theorem laidR_in {c : Array Value} {o : Nat} {X : List Value} (h : o + X.length ≤ c.size) (j : Nat) (hj : j < X.length) : (laidR c o X)[o + j]? = X[j]? := by
  have hl : (c.toList.take o).length = o := by simp; omega
  unfold laidR
  rw [List.getElem?_toArray, List.append_assoc, List.getElem?_append_right (by omega), hl, Nat.add_sub_cancel_left, List.getElem?_append_left hj]
theorem laidR_out {c : Array Value} {o : Nat} {X : List Value} (h : o + X.length ≤ c.size) (j : Nat) (hj : j < o ∨ o + X.length ≤ j) : (laidR c o X)[j]? = c[j]? := by
  have hl : (c.toList.take o).length = o := by simp; omega
  unfold laidR
  rw [List.getElem?_toArray]
  rcases hj with hj | hj
  · rw [List.append_assoc, List.getElem?_append_left (by omega), List.getElem?_take_of_lt hj, Array.getElem?_toList]
  · have hl2 : (c.toList.take o ++ X).length = o + X.length := by rw [List.length_append, hl]
    rw [List.getElem?_append_right (by omega), hl2, List.getElem?_drop, Array.getElem?_toList]
    congr 1
    omega
/-- A text copied into a row of bytes that has room. -/
theorem run_copy_text (w : World) (dT sT ty elem : TypeId) (g o dn dCap : Nat) (s : ByteArray) (cur : Array Value) (t : TypeId) (hu : Tryd.prog.underlying dT = some (.slice elem)) (hs : (Tryd.prog.info? elem).map (·.size) = some 1)
    (hg : w.heap[g]? = some (.cells cur t (0, 0))) (hd : s.size ≤ dn) (hfit : o + s.size ≤ cur.size) :
    (Builtin.copy_ #[dT, sT] ty #[.slice (some ⟨g, o, none⟩) dn dCap, .string s]).run Tryd.prog w = .ok (goInt s.size) (w.setRow g (laidR cur o (strC s))) := by
  have hst := run_storeCells_at Tryd.prog g o t (strC s) 0 cur w hg (by rw [strC_length]; simpa using hfit) (strC_one s)
  have ht : List.take s.size (List.map (fun b => Value.int IntKind.u8 ((b.toNat : Nat) : Int)) s.data.toList) = strC s := List.take_of_length_le (by rw [List.length_map, Array.length_toList]; exact Nat.le_refl _)
  cases hq : Tryd.prog.info? elem with
  | none => simp [hq] at hs
  | some i =>
    have hi : i.size = 1 := by simpa [hq] using hs
    have hmin2 : Nat.min s.size dn = s.size := Nat.min_eq_left hd
    simp [Builtin.copy_, run_underlying hu, Builtin.lenOf, Builtin.firstCells, sizeOf, typeInfo, hq, hmin2, ht, hst, laidR]

theorem infoU8s : (Tryd.prog.info? 5).map (·.size) = some 1 := by kernel_rfl

/-- A machine ahead of the first instruction. -/
def mach0 (page key : ByteArray) : Mach := { page := page, key := key, kb := fun i => strN key i, r := fun i => if i = 1 then key.size else 0, at' := 0, ended := false, code := 0, value := ByteArray.empty, next := 0, steps := 0 }

/-- The cells of a machine that was just made. -/
def newC (pv ev : Value) (page key : ByteArray) (sb : Nat) : Array Value := #[pv, ev, .string page, .string key, .int .u8 0, .int .u8 0, .int .u8 0, .int .u8 0, .int .u8 0, .int .u8 0, .int .u8 0, .int .u8 0, .int .u8 0, .int .u8 0, .int .u8 0, .int .u8 0, .int .u8 0, .int .u8 0, .int .u8 0, .int .u8 0, .pointer (some ⟨sb, 0, none⟩), .int .i64 0, .int .i64 0, .int .i64 0, .int .i64 0, .int .i64 0, .int .i64 0, .int .i64 0, .int .i64 0, .int .i64 0, .slice none 0 0, .bool false, .int .i64 0, .string ⟨#[]⟩, .int .i64 0, .int .i64 0]
theorem newC_at {pv ev : Value} {page key : ByteArray} {sb : Nat} (hk : key.size ≤ 16) : MC (laidR (newC pv ev page key sb) 4 (strC key)) pv ev sb (.slice none 0 0) { mach0 page key with r := fun _ => 0 } := by
  have hl := strC_length key
  have hf : 4 + (strC key).length ≤ (newC pv ev page key sb).size := by rw [hl]; show 4 + key.size ≤ 36; omega
  have out : ∀ j, (j < 4 ∨ 20 ≤ j) → (laidR (newC pv ev page key sb) 4 (strC key))[j]? = (newC pv ev page key sb)[j]? := fun j hj => laidR_out hf j (by omega)
  refine ⟨by rw [laidR_size hf]; rfl, (out 0 (by decide)).trans rfl, (out 1 (by decide)).trans rfl, (out 2 (by decide)).trans rfl, (out 3 (by decide)).trans rfl, fun i hi => ?_, (out 20 (by decide)).trans rfl, fun i hi => ?_, (out 29 (by decide)).trans rfl, (out 30 (by decide)).trans rfl, (out 31 (by decide)).trans rfl, (out 32 (by decide)).trans rfl, (out 33 (by decide)).trans rfl, (out 34 (by decide)).trans rfl, (out 35 (by decide)).trans rfl⟩
  · show _ = some (Value.int .u8 (strN key i))
    by_cases h : i < key.size
    · rw [laidR_in hf i (by omega), strC_at key i h]
    · rw [laidR_out hf (4 + i) (by omega), strN_no key i (by omega)]
      have : i = 0 ∨ i = 1 ∨ i = 2 ∨ i = 3 ∨ i = 4 ∨ i = 5 ∨ i = 6 ∨ i = 7 ∨ i = 8 ∨ i = 9 ∨ i = 10 ∨ i = 11 ∨ i = 12 ∨ i = 13 ∨ i = 14 ∨ i = 15 := by omega
      rcases this with rfl | rfl | rfl | rfl | rfl | rfl | rfl | rfl | rfl | rfl | rfl | rfl | rfl | rfl | rfl | rfl <;> rfl
  · rw [out (21 + i) (by omega)]
    have : i = 0 ∨ i = 1 ∨ i = 2 ∨ i = 3 ∨ i = 4 ∨ i = 5 ∨ i = 6 ∨ i = 7 := by omega
    rcases this with rfl | rfl | rfl | rfl | rfl | rfl | rfl | rfl <;> rfl

theorem begin_plain (pv : Value) (l : List In4) (page key : ByteArray) (sb : Nat) (w : World) (h : InsAt w pv l) (hl : l.length ≤ 1000) (hno : ∀ x ∈ l, x.op ≠ 17 ∧ x.op ≠ 18) (hk : key.size ≤ 16) :
    Calls Tryd.prog 11 #[pv, .string page, .string key, .pointer (some ⟨sb, 0, none⟩)] w fun r w' => ∃ b ev, r = .returned (.pointer (some ⟨b, 0, none⟩)) ∧ w.heap.size ≤ b ∧ MAt w' b pv ev sb (.slice none 0 0) (mach0 page key) ∧ Below w.heap.size w w' := by
  have HE : Hid (∀ w', Below w.heap.size w w' → _) := fun w' hb => ends_plain pv l w' (h.below hb) hl hno
  obtain ⟨pa, pc, hpv⟩ := h.slice
  generalize l.length = n at *
  subst hpv
  clear h hno hl
  go_enter Tryd.func11, Tryd.ntmps11
  go_wp2_with fail
  refine (HE.out _ (Below.refl _ _)).mono ?_
  rintro r w1 ⟨⟨ea, rfl⟩, hb1⟩
  have HB1 : Hid (Below w.heap.size w w1) := hb1
  clear hb1 HE
  obtain ⟨w2, hw2⟩ : ∃ w2, w2 = w1.alloc (Obj.cells (newC (.slice pa n pc) (.slice ea n n) page key sb) 57) := ⟨_, rfl⟩
  have HB2 : Hid (Below w.heap.size w w2) := by rw [hw2]; exact HB1.out.alloc HB1.out.size _
  have HG2 : Hid (w2.heap[w1.heap.size]? = some (.cells (newC (.slice pa n pc) (.slice ea n n) page key sb) 57 (0, 0))) := by rw [hw2]; exact heap_alloc_new _ _
  have hcp := run_copy_text w2 48 9 3 5 w1.heap.size 4 16 16 key _ 57 Tryd.underlying48 infoU8s HG2.out hk (by show 4 + key.size ≤ 36; omega)
  unfold newC at hw2
  obtain ⟨w3, hw3⟩ : ∃ w3, w3 = w2.setRow w1.heap.size (laidR (newC (.slice pa n pc) (.slice ea n n) page key sb) 4 (strC key)) := ⟨_, rfl⟩
  rw [← hw3] at hcp
  have HB3 : Hid (Below w.heap.size w w3) := by rw [hw3]; exact HB2.out.trans ⟨rfl, rfl, rfl, by simp, fun k hk => setRow_other w2 w1.heap.size k _ (by have := HB1.out.size; have := HB2.out.size; omega)⟩
  have HM3 : Hid (MAt w3 w1.heap.size (.slice pa n pc) (.slice ea n n) sb (.slice none 0 0) { mach0 page key with r := fun _ => 0 }) := by rw [hw3]; exact ⟨_, setRow_heap _ _ _ _ _ _ HG2.out, newC_at hk⟩
  clear hw3 HG2
  go_wp2_with fail
  rw [← hw2, hcp]
  clear hcp hw2
  simp only [Result.andThen]
  rw [Oper.upon_value]
  have y22 : w3.cell? ⟨w1.heap.size, 22, none⟩ = some (.int .i64 0) := HM3.out.cReg 1 (by decide)
  have g22 := HM3.out.free 22
  go_wp2
  go_ret
  refine ⟨w1.heap.size, .slice ea n n, rfl, HB1.out.size, ?_, HB3.out.setCell (p := ⟨w1.heap.size, 22, none⟩) HB1.out.size _⟩
  exact HM3.out.sReg 1 (by decide) _

end Go.Proofs.YtncjlcgndhodmabDoor.Rn
