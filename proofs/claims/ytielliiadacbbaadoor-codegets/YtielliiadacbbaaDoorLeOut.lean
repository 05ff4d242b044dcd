/-
  The contracts of le.Out: what its bytes are behind Num and Text, and what String answers. An Out lies at block b, its bytes in blocks behind it; nothing ahead of b is turned.
-/
import Derived.Test.YtielliiadacbbaaDoorLe1
import Derived.Test.YtielliiadacbbaaDoorLeApp
namespace Go.Proofs.YtielliiadacbbaaDoor.Le
open Go.ChangeShapes Go.WideShapes Go.ChangeAt Go.RowKit Go.Lib

theorem infoU8 : (Tryd.prog.info? 5).map (fun i => (i.zero, i.size, i.bytes)) = some (some (.int .u8 0), 1, 1) := by kernel_rfl

/-- Bytes as cells. -/
def cellsOf (xs : List UInt8) : List Value := xs.map fun b => .int .u8 b.toNat

/-- The Out at block b: its bytes, or spoilt. -/
def OutS (w : World) (b : Nat) : Option (List UInt8) → Prop
  | some xs => ∃ v, w.heap[b]? = some (.cells #[v, .bool false] 51 (0, 0)) ∧ w.ownsRow (b + 1) 5 1 v xs.length (cellsOf xs)
  | none => w.heap[b]? = some (.cells #[.slice none 0 0, .bool true] 51 (0, 0))

/-- Block k is neither the Out's at b nor its bytes'. -/
def Apart (w : World) (b k : Nat) : Prop := k ≠ b ∧ ∀ v l, w.heap[b]? = some (.cells #[v, .bool l] 51 (0, 0)) → v.ownBlock ≠ some k

/-- What is apart from the Out stays as it was, and apart. -/
def Frame (b : Nat) (w w' : World) : Prop := ∀ k, k < w.heap.size → Apart w b k → w'.heap[k]? = w.heap[k]? ∧ Apart w' b k

/-- What Text makes of an Out. -/
def textF : Option (List UInt8) → ByteArray → Int → Option (List UInt8)
  | some xs, s, size => if (s.size : Int) ≤ size then some (xs ++ s.data.toList ++ List.replicate (size - s.size).toNat 0) else none
  | none, _, _ => none

/-- What Num makes of an Out. -/
def numF (st : Option (List UInt8)) (n size : Int) : Option (List UInt8) := if putF n size = ByteArray.empty then none else textF st (putF n size) size

theorem cell_of_heap {w : World} {b : Nat} {c : Array Value} {t : TypeId} (h : w.heap[b]? = some (.cells c t (0, 0))) (i : Nat) (v : Value) (hv : c[i]? = some v) : w.cell? ⟨b, i, none⟩ = some v := by
  simp [World.cell?, h, hv]

theorem free_of_heap {w : World} {b : Nat} {c : Array Value} {t : TypeId} (h : w.heap[b]? = some (.cells c t (0, 0))) (i : Nat) : w.frozen? ⟨b, i, none⟩ = false := by
  simp [World.frozen?, h]

theorem heap_set {w : World} {b : Nat} {c : Array Value} {t : TypeId} (h : w.heap[b]? = some (.cells c t (0, 0))) (i : Nat) (v : Value) : (w.setCell ⟨b, i, none⟩ v).heap[b]? = some (.cells (c.setIfInBounds i v) t (0, 0)) := by
  simp [World.setCell, Array.getElem?_modify, h]

/-- Block b, which lies ahead of what v owns, is as it was behind an append. -/
theorem kept_of_grown {w w' : World} {b n : Nat} {v : Value} {e : TypeId} {xs : List Value} {o : Obj} (hown : w.ownsRow (b + 1) e 1 v n xs) (hg : w.grownBy w' v.ownBlock) (h : w.heap[b]? = some o) : w'.heap[b]? = some o := by
  have hb : b < w.heap.size := by
    rcases Nat.lt_or_ge b w.heap.size with hl | hl
    · exact hl
    · rw [Array.getElem?_eq_none hl] at h; cases h
  rw [hg.block b hb ?_, h]
  intro he
  rcases hown.2 with ⟨rfl, _⟩ | ⟨g, cap, cur, rfl, hbg, _⟩
  · simp [Value.ownBlock] at he
  · simp [Value.ownBlock] at he; omega

theorem below_of_grown {w w' : World} {b n : Nat} {v : Value} {e : TypeId} {xs : List Value} (hown : w.ownsRow (b + 1) e 1 v n xs) (hg : w.grownBy w' v.ownBlock) (hb : b < w.heap.size) : Below b w w' := by
  refine (Below.refl b w).grown hg (by omega) ?_
  intro k hk
  rcases hown.2 with ⟨rfl, _⟩ | ⟨g, cap, cur, rfl, hbg, _⟩
  · simp [Value.ownBlock] at hk
  · simp [Value.ownBlock] at hk; omega

theorem Frame.refl (b : Nat) (w : World) : Frame b w w := fun _ _ h => ⟨rfl, h⟩
theorem Frame.trans {b : Nat} {w w1 w2 : World} (h : Frame b w w1) (k : Frame b w1 w2) (hs : w.heap.size ≤ w1.heap.size) : Frame b w w2 := fun j hj ha => by
  obtain ⟨e1, a1⟩ := h j hj ha
  obtain ⟨e2, a2⟩ := k j (Nat.lt_of_lt_of_le hj hs) a1
  exact ⟨e2.trans e1, a2⟩

/-- Where block b and its value are known behind a step: what is apart, of a value's own block that stays or is new. -/
theorem frame_of {b : Nat} {w w' : World} {v v' : Value} {l l' : Bool} (h : w.heap[b]? = some (.cells #[v, .bool l] 51 (0, 0))) (h' : w'.heap[b]? = some (.cells #[v', .bool l'] 51 (0, 0)))
    (hv : v'.ownBlock = v.ownBlock ∨ v'.ownBlock = none ∨ ∃ g, v'.ownBlock = some g ∧ w.heap.size ≤ g) (hs : ∀ k, k < w.heap.size → k ≠ b → v.ownBlock ≠ some k → w'.heap[k]? = w.heap[k]?) : Frame b w w' := by
  intro k hk ⟨hn, ha⟩
  have hak := ha v l h
  refine ⟨hs k hk hn hak, hn, ?_⟩
  intro u m hu
  rw [h'] at hu
  simp only [Option.some.injEq, Obj.cells.injEq] at hu
  obtain ⟨hu, _⟩ := hu
  have e : v' = u := by
    have := congrArg (fun x : Array Value => x[0]?) hu
    simpa using this
  subst e
  rcases hv with hv | hv | ⟨g, hv, hg⟩
  · rw [hv]; exact hak
  · rw [hv]; simp
  · rw [hv]; intro he; have := Option.some.inj he; omega

set_option maxRecDepth 100000 in
set_option maxHeartbeats 400000 in
theorem spoil_any (w : World) (b : Nat) (v0 : Value) (l0 : Bool) (h : w.heap[b]? = some (.cells #[v0, .bool l0] 51 (0, 0))) :
    Calls Tryd.prog 25 #[.pointer (some ⟨b, 0, none⟩)] w fun e w' => e = .returned (.tuple #[]) ∧ OutS w' b none ∧ Below b w w' ∧ Frame b w w' := by
  have c0 := cell_of_heap h 0 v0 rfl
  have c1 := cell_of_heap h 1 (.bool l0) rfl
  have f0 := free_of_heap h 0
  have f1 := free_of_heap h 1
  have H : Hid (w.heap[b]? = some (.cells #[v0, .bool l0] 51 (0, 0))) := h
  clear h
  go_enter Tryd.func25, Tryd.ntmps25
  go_wp2
  go_end0
  have h2 : ((w.setCell ⟨b, 0, none⟩ (.slice none 0 0)).setCell ⟨b, 1, none⟩ (.bool true)).heap[b]? = some (.cells #[.slice none 0 0, .bool true] 51 (0, 0)) := heap_set (heap_set H.out 0 _) 1 _
  refine ⟨rfl, h2, ((Below.refl b w).setCell (p := ⟨b, 0, none⟩) (Nat.le_refl _) _).setCell (p := ⟨b, 1, none⟩) (Nat.le_refl _) _, frame_of H.out h2 (.inr (.inl rfl)) ?_⟩
  intro k _ hk _
  rw [Below.heap_setCell _ _ _ _ hk, Below.heap_setCell _ _ _ _ hk]

theorem lt_of_heap {w : World} {b : Nat} {o : Obj} (h : w.heap[b]? = some o) : b < w.heap.size := by
  rcases Nat.lt_or_ge b w.heap.size with hl | hl
  · exact hl
  · rw [Array.getElem?_eq_none hl] at h; cases h

theorem own_form {w : World} {base n : Nat} {v : Value} {e : TypeId} {xs : List Value} (hown : w.ownsRow base e 1 v n xs) : ∃ a cap, v = .slice a n cap ∧ n ≤ 9223372036854775807 := by
  rcases hown.2 with ⟨rfl, hn⟩ | ⟨g, cap, cur, rfl, _, _, hnc, hcm, _⟩
  · exact ⟨none, 0, by rw [hn], by omega⟩
  · exact ⟨_, cap, rfl, by unfold maxLen at hcm; omega⟩

/-- A store into block b, which lies ahead of what is owned. -/
theorem own_set {w : World} {b n : Nat} {v u : Value} {e : TypeId} {xs : List Value} (hown : w.ownsRow (b + 1) e 1 v n xs) (i : Nat) : (w.setCell ⟨b, i, none⟩ u).ownsRow (b + 1) e 1 v n xs :=
  ownsRow_setCell_below hown (a := ⟨b, i, none⟩) (by simp) u

set_option maxRecDepth 100000 in
set_option maxHeartbeats 400000 in
theorem text_spoilt (w : World) (b : Nat) (s : ByteArray) (size : Int) (h : OutS w b none) :
    Calls Tryd.prog 26 #[.pointer (some ⟨b, 0, none⟩), .string s, .int .i64 size] w fun e w' => e = .returned (.tuple #[]) ∧ w' = w := by
  have c1 := cell_of_heap h 1 (.bool true) rfl
  clear h
  go_enter Tryd.func26, Tryd.ntmps26
  go_wp2
  refine bodyPost_ret (results_none rfl _ _ _) rfl ?_
  exact ⟨rfl, rfl⟩

set_option maxRecDepth 100000 in
set_option maxHeartbeats 400000 in
theorem text_nil (w : World) (s : ByteArray) (size : Int) :
    Calls Tryd.prog 26 #[.pointer none, .string s, .int .i64 size] w fun e w' => e = .returned (.tuple #[]) ∧ w' = w := by
  go_enter Tryd.func26, Tryd.ntmps26
  go_wp2
  refine bodyPost_ret (results_none rfl _ _ _) rfl ?_
  exact ⟨rfl, rfl⟩

set_option maxRecDepth 100000 in
set_option maxHeartbeats 400000 in
theorem text_short (w : World) (b : Nat) (xs : List UInt8) (s : ByteArray) (size : Int) (h : OutS w b (some xs)) (hs : size < s.size) :
    Calls Tryd.prog 26 #[.pointer (some ⟨b, 0, none⟩), .string s, .int .i64 size] w fun e w' => e = .returned (.tuple #[]) ∧ OutS w' b none ∧ Below b w w' ∧ Frame b w w' := by
  obtain ⟨v, h, hown⟩ := h
  have c1 := cell_of_heap h 1 (.bool false) rfl
  have hsp := spoil_any w b v false h
  have H : Hid (Calls Tryd.prog 25 #[.pointer (some ⟨b, 0, none⟩)] w fun e w' => e = .returned (.tuple #[]) ∧ OutS w' b none ∧ Below b w w' ∧ Frame b w w') := hsp
  clear h hown hsp
  go_enter Tryd.func26, Tryd.ntmps26
  go_wp2_with (go_at_call 25; refine (H.out).mono ?_; rintro e w1 ⟨rfl, ho, hb⟩)
  refine bodyPost_ret (results_none rfl _ _ _) rfl ?_
  exact ⟨rfl, ho, hb⟩

set_option maxRecDepth 100000 in
set_option maxHeartbeats 400000 in
theorem text_yes (w : World) (b : Nat) (xs : List UInt8) (s : ByteArray) (size : Int) (h : OutS w b (some xs)) (hs : (s.size : Int) ≤ size) (hm : size ≤ 2147483647 - xs.length) :
    Calls Tryd.prog 26 #[.pointer (some ⟨b, 0, none⟩), .string s, .int .i64 size] w fun e w' => e = .returned (.tuple #[]) ∧ OutS w' b (some (xs ++ s.data.toList ++ List.replicate (size - s.size).toNat 0)) ∧ Below b w w' ∧ Frame b w w' := by
  obtain ⟨v, h, hown⟩ := h
  have c0 := cell_of_heap h 0 v rfl
  have c1 := cell_of_heap h 1 (.bool false) rfl
  have H : Hid (w.heap[b]? = some (.cells #[v, .bool false] 51 (0, 0))) := h
  have HO : Hid (w.ownsRow (b + 1) 5 1 v xs.length (cellsOf xs)) := hown
  obtain ⟨i0, hi, hi2⟩ := Option.map_eq_some_iff.1 infoU8
  have hz0 : i0.zero = some (.int .u8 0) := by have := congrArg Prod.fst hi2; exact this
  have hz1 : i0.size = 1 := congrArg (fun x => x.2.1) hi2
  have hz2 : i0.bytes = 1 := congrArg (fun x => x.2.2) hi2
  clear hi2
  obtain ⟨a0, cap0, hv, hcm⟩ := own_form hown
  subst hv
  clear h hown
  go_enter Tryd.func26, Tryd.ntmps26
  go_wp2_with (at_builtin; refine wpList_append_own_str _ rfl _ _ 49 9 rfl (b + 1) 5 i0 Tryd.underlying49 Tryd.underlying9 hi hz0 hz1 hz2 _ _ _ rfl HO.out s rfl ?c1 ?c2 ?c3 ?_)
  case c1 => unfold maxLen; omega
  case c2 => omega
  case c3 => exact lt_of_heap H.out
  intro v1 w1 hown1 hg1 hl1
  have HG1 : Hid (w.grownBy w1 (Value.slice a0 xs.length cap0).ownBlock) := hg1
  have HL1 : Hid (v1.ownBlock = (Value.slice a0 xs.length cap0).ownBlock ∨ v1.ownBlock = some w.heap.size) := hl1
  clear hl1
  have hb1 := below_of_grown HO.out hg1 (lt_of_heap H.out)
  have h1 := kept_of_grown HO.out hg1 H.out
  have d0 := cell_of_heap h1 0 _ rfl
  have f0 := free_of_heap h1 0
  have H1 : Hid (w1.heap[b]? = some (.cells #[.slice a0 xs.length cap0, .bool false] 51 (0, 0))) := h1
  have HO1 : Hid (w1.ownsRow (b + 1) 5 1 v1 (xs.length + s.size) (cellsOf xs ++ strCells s)) := hown1
  clear h1 hown1 hg1 c0 c1
  obtain ⟨a1, cap1, hv, hcm1⟩ := own_form HO1.out
  subst hv
  have e0 : (w1.setCell ⟨b, 0, none⟩ (.slice a1 (xs.length + s.size) cap1)).cell? ⟨b, 0, none⟩ = some (.slice a1 (xs.length + s.size) cap1) := World.cell?_setCell_same _ _ _ d0
  have HO2 : Hid ((w1.setCell ⟨b, 0, none⟩ (.slice a1 (xs.length + s.size) cap1)).ownsRow (b + 1) 5 1 (.slice a1 (xs.length + s.size) cap1) (xs.length + s.size) (cellsOf xs ++ strCells s)) := own_set HO1.out 0
  have H2 : Hid ((w1.setCell ⟨b, 0, none⟩ (.slice a1 (xs.length + s.size) cap1)).heap[b]? = some (.cells #[.slice a1 (xs.length + s.size) cap1, .bool false] 51 (0, 0))) := heap_set H1.out 0 _
  obtain ⟨k, hk⟩ : ∃ k : Nat, size - s.size = k := Int.eq_ofNat_of_zero_le (by omega)
  have HK : Hid (size - s.size = k) := hk
  have hkb : xs.length + s.size + k ≤ 2147483647 := by omega
  go_wp2_with (at_builtin; refine wpList_append_own_zeros _ rfl _ _ 49 3 rfl (b + 1) 5 i0 .i64 .i64 Tryd.underlying49 Tryd.underlying3 hi hz0 hz1 hz2 _ _ _ rfl HO2.out k (by simp [Act.eval]) ?c1 ?c2 ?c3 ?_)
  case c1 => unfold maxLen; omega
  case c2 => omega
  case c3 => exact lt_of_heap H2.out
  intro v2 w2 hown2 hg2 hl2
  have HG2 : Hid ((w1.setCell ⟨b, 0, none⟩ (.slice a1 (xs.length + s.size) cap1)).grownBy w2 (Value.slice a1 (xs.length + s.size) cap1).ownBlock) := hg2
  have HL2 : Hid (v2.ownBlock = (Value.slice a1 (xs.length + s.size) cap1).ownBlock ∨ v2.ownBlock = some w1.heap.size) := by
    show _ ∨ _
    simpa using hl2
  clear hl2
  have hb2 := below_of_grown HO2.out hg2 (lt_of_heap H2.out)
  have h2 := kept_of_grown HO2.out hg2 H2.out
  have g0 := cell_of_heap h2 0 _ rfl
  have k0 := free_of_heap h2 0
  have H3 : Hid (w2.heap[b]? = some (.cells #[.slice a1 (xs.length + s.size) cap1, .bool false] 51 (0, 0))) := h2
  have HO3 : Hid (w2.ownsRow (b + 1) 5 1 v2 (xs.length + s.size + k) (cellsOf xs ++ (strCells s ++ noughts k))) := by
    show w2.ownsRow _ _ _ _ _ _
    simpa using hown2
  clear h2 hown2 hg2
  obtain ⟨a2, cap2, hv, hcm2⟩ := own_form HO3.out
  subst hv
  go_wp2
  go_end0
  refine ⟨rfl, ⟨_, heap_set H3.out 0 _, ?_⟩, ?_, ?_⟩
  · have e1 : (size - s.size).toNat = k := by rw [HK.out]; rfl
    have e2 : (xs ++ s.data.toList ++ List.replicate k 0).length = xs.length + s.size + k := by simp; omega
    have e3 : cellsOf (xs ++ s.data.toList ++ List.replicate k 0) = cellsOf xs ++ (strCells s ++ noughts k) := by
      simp [cellsOf, strCells, noughts]
    rw [e1, e2, e3]
    exact own_set HO3.out 0
  · exact ((hb1.setCell (p := ⟨b, 0, none⟩) (Nat.le_refl _) _).trans hb2).setCell (p := ⟨b, 0, none⟩) (Nat.le_refl _) _
  · have hs1 := HG1.out.size
    refine frame_of H.out (heap_set H3.out 0 _) ?_ ?_
    · rcases HL2.out with e | e
      · rcases HL1.out with e1 | e1
        · exact .inl (e.trans e1)
        · exact .inr (.inr ⟨_, e.trans e1, Nat.le_refl _⟩)
      · exact .inr (.inr ⟨_, e, hs1⟩)
    · intro j hj hjb hjo
      rw [Below.heap_setCell _ _ _ _ hjb, HG2.out.block j (by simp; omega) ?_, Below.heap_setCell _ _ _ _ hjb, HG1.out.block j hj (fun e => hjo e.symm)]
      intro e
      rcases HL1.out with e1 | e1
      · exact hjo (e1.symm.trans e.symm)
      · have := Option.some.inj (e.trans e1); omega

/-- Text, of an Out that isn't nil. -/
theorem text_any4 (w : World) (b : Nat) (st : Option (List UInt8)) (s : ByteArray) (size : Int) (h : OutS w b st) (hm : ∀ xs, st = some xs → size ≤ 2147483647 - xs.length) :
    Calls Tryd.prog 26 #[.pointer (some ⟨b, 0, none⟩), .string s, .int .i64 size] w fun e w' => e = .returned (.tuple #[]) ∧ OutS w' b (textF st s size) ∧ Below b w w' ∧ Frame b w w' := by
  cases st with
  | none =>
    refine (text_spoilt w b s size h).mono ?_
    rintro e w' ⟨rfl, rfl⟩
    exact ⟨rfl, h, Below.refl _ _, Frame.refl _ _⟩
  | some xs =>
    by_cases hs : (s.size : Int) ≤ size
    · have := text_yes w b xs s size h hs (hm xs rfl)
      simpa [textF, hs] using this
    · have := text_short w b xs s size h (by omega)
      simpa [textF, hs] using this

theorem text_any (w : World) (b : Nat) (st : Option (List UInt8)) (s : ByteArray) (size : Int) (h : OutS w b st) (hm : ∀ xs, st = some xs → size ≤ 2147483647 - xs.length) :
    Calls Tryd.prog 26 #[.pointer (some ⟨b, 0, none⟩), .string s, .int .i64 size] w fun e w' => e = .returned (.tuple #[]) ∧ OutS w' b (textF st s size) ∧ Below b w w' :=
  (text_any4 w b st s size h hm).mono fun _ _ h => ⟨h.1, h.2.1, h.2.2.1⟩

theorem own_kept {w w' : World} {base n : Nat} {v : Value} {e : TypeId} {xs : List Value} (hown : w.ownsRow base e 1 v n xs) (hb : Below w.heap.size w w') : w'.ownsRow base e 1 v n xs := by
  refine ⟨hown.1, ?_⟩
  rcases hown.2 with h | ⟨g, cap, cur, rfl, hbg, hg, rest⟩
  · exact .inl h
  · exact .inr ⟨g, cap, cur, rfl, hbg, by rw [hb.block g (lt_of_heap hg)]; exact hg, rest⟩

/-- An Out is as it was where nothing old was turned. -/
theorem OutS.kept {w w' : World} {b : Nat} {st : Option (List UInt8)} (h : OutS w b st) (hb : Below w.heap.size w w') : OutS w' b st := by
  cases st with
  | none => show w'.heap[b]? = _; rw [hb.block b (lt_of_heap h)]; exact h
  | some xs =>
    obtain ⟨v, h1, h2⟩ := h
    exact ⟨v, by rw [hb.block b (lt_of_heap h1)]; exact h1, own_kept h2 hb⟩

theorem OutS.lt {w : World} {b : Nat} {st : Option (List UInt8)} (h : OutS w b st) : b < w.heap.size := by
  cases st with
  | none => exact lt_of_heap h
  | some xs => obtain ⟨v, h1, h2⟩ := h; exact lt_of_heap h1

theorem OutS.block {w : World} {b : Nat} {st : Option (List UInt8)} (h : OutS w b st) : ∃ v l, w.heap[b]? = some (.cells #[v, .bool l] 51 (0, 0)) := by
  cases st with
  | none => exact ⟨_, _, h⟩
  | some xs => obtain ⟨v, h1, h2⟩ := h; exact ⟨_, _, h1⟩

theorem frame_below {w w' : World} {b : Nat} {st : Option (List UInt8)} (h : OutS w b st) (hb : Below w.heap.size w w') : Frame b w w' := by
  obtain ⟨v, l, hv⟩ := h.block
  exact frame_of hv (by rw [hb.block b (lt_of_heap hv)]; exact hv) (.inl rfl) fun k hk _ _ => hb.block k hk

/-- A block that is made behind the Out is apart from it. -/
theorem apart_new {w w' : World} {b : Nat} {st : Option (List UInt8)} (h : OutS w b st) (hb : Below w.heap.size w w') (k : Nat) (hk : w.heap.size ≤ k) : Apart w' b k := by
  have hlt := h.lt
  refine ⟨by omega, fun v l hv => ?_⟩
  rw [hb.block b hlt] at hv
  intro he
  cases st with
  | none =>
    have e : w.heap[b]? = some (.cells #[.slice none 0 0, .bool true] 51 (0, 0)) := h
    rw [e] at hv
    simp only [Option.some.injEq, Obj.cells.injEq] at hv
    have := congrArg (fun x : Array Value => x[0]?) hv.1
    simp at this
    subst this
    simp [Value.ownBlock] at he
  | some xs =>
    obtain ⟨u, h1, h2⟩ := h
    rw [h1] at hv
    simp only [Option.some.injEq, Obj.cells.injEq] at hv
    have := congrArg (fun x : Array Value => x[0]?) hv.1
    simp at this
    subst this
    rcases h2.2 with ⟨rfl, _⟩ | ⟨g, cap, cur, rfl, _, hg, _⟩
    · simp [Value.ownBlock] at he
    · simp [Value.ownBlock] at he
      have := lt_of_heap hg
      omega

set_option maxRecDepth 100000 in
set_option maxHeartbeats 400000 in
/-- Num, of an Out that isn't nil. -/
theorem num_any4 (w : World) (b : Nat) (st : Option (List UInt8)) (n size : Int) (h : OutS w b st) (hm : ∀ xs, st = some xs → size ≤ 2147483647 - xs.length) :
    Calls Tryd.prog 17 #[.pointer (some ⟨b, 0, none⟩), .int .i64 n, .int .i64 size] w fun e w' => e = .returned (.tuple #[]) ∧ OutS w' b (numF st n size) ∧ Below b w w' ∧ Frame b w w' := by
  have HM : Hid (∀ xs, st = some xs → size ≤ 2147483647 - xs.length) := hm
  clear hm
  have hlt := h.lt
  by_cases he : putF n size = ByteArray.empty
  · have hq : (putF n size).toList.isEmpty = true := isEmpty_true he
    have HE : Hid (putF n size = ByteArray.empty) := he
    clear he
    go_enter Tryd.func17, Tryd.ntmps17
    go_wp2_with fail
    refine (put_any _ _ _).mono ?_
    rintro e w1 ⟨rfl, hb1⟩
    obtain ⟨v, l, hv⟩ := (h.kept hb1).block
    have HV : Hid (w1.heap[b]? = some (.cells #[v, .bool l] 51 (0, 0))) := hv
    clear hv
    go_wp2_with (go_at_call 25; refine (spoil_any w1 b v l HV.out).mono ?_; rintro e w2 ⟨rfl, ho, hb, hfr⟩)
    refine bodyPost_ret (results_none rfl _ _ _) rfl ?_
    exact ⟨rfl, by rw [numF, if_pos HE.out]; exact ho, (hb1.mono (by omega)).trans hb, (frame_below h hb1).trans hfr hb1.size⟩
  · have hq : (putF n size).toList.isEmpty = false := isEmpty_false he
    have HE : Hid (putF n size ≠ ByteArray.empty) := he
    clear he
    go_enter Tryd.func17, Tryd.ntmps17
    go_wp2_with fail
    refine (put_any _ _ _).mono ?_
    rintro e w1 ⟨rfl, hb1⟩
    have h1 := h.kept hb1
    go_wp2_with (go_at_call 26; refine (text_any4 w1 b st _ _ h1 HM.out).mono ?_; rintro e w2 ⟨rfl, ho, hb, hfr⟩)
    go_end0
    exact ⟨rfl, by rw [numF, if_neg HE.out]; exact ho, (hb1.mono (by omega)).trans hb, (frame_below h hb1).trans hfr hb1.size⟩

theorem num_any (w : World) (b : Nat) (st : Option (List UInt8)) (n size : Int) (h : OutS w b st) (hm : ∀ xs, st = some xs → size ≤ 2147483647 - xs.length) :
    Calls Tryd.prog 17 #[.pointer (some ⟨b, 0, none⟩), .int .i64 n, .int .i64 size] w fun e w' => e = .returned (.tuple #[]) ∧ OutS w' b (numF st n size) ∧ Below b w w' :=
  (num_any4 w b st n size h hm).mono fun _ _ h => ⟨h.1, h.2.1, h.2.2.1⟩

set_option maxRecDepth 100000 in
set_option maxHeartbeats 400000 in
theorem num_nil (w : World) (n size : Int) :
    Calls Tryd.prog 17 #[.pointer none, .int .i64 n, .int .i64 size] w fun e w' => e = .returned (.tuple #[]) ∧ Below w.heap.size w w' := by
  have hsp : ∀ w, Calls Tryd.prog 25 #[.pointer none] w fun e w' => e = .returned (.tuple #[]) ∧ w' = w := by
    intro w
    go_enter Tryd.func25, Tryd.ntmps25
    go_wp2
    go_end0
    exact ⟨rfl, rfl⟩
  have HS : Hid (∀ w, Calls Tryd.prog 25 #[.pointer none] w fun e w' => e = .returned (.tuple #[]) ∧ w' = w) := hsp
  clear hsp
  by_cases he : putF n size = ByteArray.empty
  · have hq : (putF n size).toList.isEmpty = true := isEmpty_true he
    clear he
    go_enter Tryd.func17, Tryd.ntmps17
    go_wp2_with fail
    refine (put_any _ _ _).mono ?_
    rintro e w1 ⟨rfl, hb1⟩
    go_wp2_with (go_at_call 25; refine (HS.out w1).mono ?_; rintro e w2 ⟨rfl, rfl⟩)
    refine bodyPost_ret (results_none rfl _ _ _) rfl ?_
    exact ⟨rfl, hb1⟩
  · have hq : (putF n size).toList.isEmpty = false := isEmpty_false he
    clear he
    go_enter Tryd.func17, Tryd.ntmps17
    go_wp2_with fail
    refine (put_any _ _ _).mono ?_
    rintro e w1 ⟨rfl, hb1⟩
    go_wp2_with (go_at_call 26; refine (text_nil w1 _ _).mono ?_; rintro e w2 ⟨rfl, rfl⟩)
    go_end0
    exact ⟨rfl, hb1⟩

set_option maxRecDepth 100000 in
set_option maxHeartbeats 400000 in
theorem string_some (w : World) (b : Nat) (xs : List UInt8) (h : OutS w b (some xs)) :
    Calls Tryd.prog 18 #[.pointer (some ⟨b, 0, none⟩)] w fun e w' => e = .returned (.tuple #[.string ⟨xs.toArray⟩, .nilIface]) ∧ w' = w := by
  obtain ⟨v, h, hown⟩ := h
  have c0 := cell_of_heap h 0 v rfl
  have c1 := cell_of_heap h 1 (.bool false) rfl
  have hU : Sem.run Tryd.prog (convert 49 9 v) w = .ok (.string ⟨xs.toArray⟩) w := by
    rcases hown.2 with ⟨rfl, hn⟩ | ⟨g, cap, cur, rfl, _, hg, hnc, hcm, hcs, ht⟩
    · obtain rfl : xs = [] := List.eq_nil_of_length_eq_zero hn
      exact run_convert_bytes_nil (P := Tryd.prog) w 49 5 Tryd.underlying49 Tryd.underlying5 0 0 9 Tryd.underlying9
    · have := run_convert_bytes_arg (P := Tryd.prog) w 49 5 Tryd.underlying49 Tryd.underlying5 g 0 xs.length cap (xs.map fun x => (x.toNat : Int)) (by simp) (by
        intro i hi
        have e1 : cur[i]? = some (.int .u8 xs[i].toNat) := by
          have e2 : (cur.toList.take (xs.length * 1))[i]? = some (.int .u8 xs[i].toNat) := by rw [ht]; simp [cellsOf, hi]
          rw [List.getElem?_take_of_lt (by omega)] at e2
          simpa using e2
        rw [Nat.zero_add, cell_of_heap hg i _ e1]
        simp [hi]) 9 Tryd.underlying9
      rw [this]
      have e3 : strOfNums (xs.map fun x => (x.toNat : Int)) = ⟨xs.toArray⟩ := by
        simp [strOfNums, Function.comp_def]
      rw [e3]
  obtain ⟨a0, cap0, hv, hcm⟩ := own_form hown
  subst hv
  clear h hown
  go_enter Tryd.func18, Tryd.ntmps18
  go_wp2
  go_ret2
  exact ⟨rfl, rfl⟩

set_option maxRecDepth 100000 in
set_option maxHeartbeats 400000 in
theorem string_none (w : World) (b : Nat) (h : OutS w b none) :
    Calls Tryd.prog 18 #[.pointer (some ⟨b, 0, none⟩)] w fun e w' => e = .returned (.tuple #[.string ByteArray.empty, .iface 48 (.int .i64 10)]) ∧ w' = w := by
  have c1 := cell_of_heap h 1 (.bool true) rfl
  clear h
  go_enter Tryd.func18, Tryd.ntmps18
  go_wp2
  go_ret2
  exact ⟨rfl, rfl⟩

set_option maxRecDepth 100000 in
set_option maxHeartbeats 400000 in
theorem string_nil (w : World) :
    Calls Tryd.prog 18 #[.pointer none] w fun e w' => e = .returned (.tuple #[.string ByteArray.empty, .iface 48 (.int .i64 1)]) ∧ w' = w := by
  go_enter Tryd.func18, Tryd.ntmps18
  go_wp2
  go_ret2
  exact ⟨rfl, rfl⟩

end Go.Proofs.YtielliiadacbbaaDoor.Le
