/-
  The contracts of le.In: what is left behind Num, Text and what End answers. An In lies at block b; no other block is turned.
-/
import Derived.Test.YtkfphmhnaelflacGreatDoorLeOut
namespace Go.Proofs.YtkfphmhnaelflacGreatDoor.Le
open Go.ChangeShapes Go.WideShapes Go.ChangeAt Go.RowKit Go.Lib

/-- Nothing but block b is turned, and no block is made. -/
structure Only (b : Nat) (w w' : World) : Prop where
  os : w'.os = w.os
  tape : w'.tape = w.tape
  output : w'.output = w.output
  size : w'.heap.size = w.heap.size
  block : ∀ k, k ≠ b → w'.heap[k]? = w.heap[k]?

theorem Only.refl (b : Nat) (w : World) : Only b w w := ⟨rfl, rfl, rfl, rfl, fun _ _ => rfl⟩
theorem Only.trans {b : Nat} {w w1 w2 : World} (h : Only b w w1) (k : Only b w1 w2) : Only b w w2 :=
  ⟨k.os.trans h.os, k.tape.trans h.tape, k.output.trans h.output, k.size.trans h.size, fun i hi => (k.block i hi).trans (h.block i hi)⟩
theorem Only.set {b : Nat} {w w' : World} (h : Only b w w') (i : Nat) (u : Value) : Only b w (w'.setCell ⟨b, i, none⟩ u) :=
  h.trans ⟨rfl, rfl, rfl, by simp [World.setCell], fun k hk => Below.heap_setCell _ _ _ _ hk⟩
theorem Only.below {b B : Nat} {w w' : World} (h : Only b w w') (hB : B ≤ b) : Below B w w' :=
  ⟨h.os, h.tape, h.output, Nat.le_of_eq h.size.symm, fun k hk => h.block k (by omega)⟩

/-- An error's value, of its number. -/
def errV (e : Int) : Value := if e = 0 then .nilIface else .iface 57 (.int .i64 e)
theorem errV_zero : errV 0 = .nilIface := rfl
theorem errV_pos {e : Int} (h : e ≠ 0) : errV e = .iface 57 (.int .i64 e) := if_neg h

/-- The In at block b: what is left, and the first error's number. -/
def InS (w : World) (b : Nat) (s : ByteArray) (e : Int) : Prop := w.heap[b]? = some (.cells #[.string s, errV e] 106 (0, 0))

theorem InS.kept {w w' : World} {b : Nat} {s : ByteArray} {e : Int} (h : InS w b s e) (hb : Below w.heap.size w w') : InS w' b s e := by
  show w'.heap[b]? = _; rw [hb.block b (lt_of_heap h)]; exact h
theorem InS.lt {w : World} {b : Nat} {s : ByteArray} {e : Int} (h : InS w b s e) : b < w.heap.size := lt_of_heap h

set_option maxRecDepth 100000 in
set_option maxHeartbeats 400000 in
theorem fail_first (w : World) (b : Nat) (s : ByteArray) (n : Int) (hn : n ≠ 0) (h : InS w b s 0) :
    Calls Tryz.prog 56 #[.pointer (some ⟨b, 0, none⟩), .iface 57 (.int .i64 n)] w fun e w' => e = .returned (.tuple #[]) ∧ InS w' b ByteArray.empty n ∧ Only b w w' := by
  have h' : w.heap[b]? = some (.cells #[.string s, .nilIface] 106 (0, 0)) := h
  have c0 := cell_of_heap h' 0 _ rfl
  have c1 := cell_of_heap h' 1 .nilIface rfl
  have f0 := free_of_heap h' 0
  have f1 := free_of_heap h' 1
  have H : Hid (w.heap[b]? = some (.cells #[.string s, .nilIface] 106 (0, 0))) := h'
  clear h h'
  go_enter Tryz.func56, Tryz.ntmps56
  go_wp2
  go_end0
  refine ⟨rfl, ?_, ((Only.refl b w).set 0 _).set 1 _⟩
  show (World.setCell _ _ _).heap[b]? = _
  rw [errV_pos hn]
  exact heap_set (heap_set H.out 0 _) 1 _

set_option maxRecDepth 100000 in
set_option maxHeartbeats 400000 in
theorem fail_again (w : World) (b : Nat) (s : ByteArray) (n m : Int) (hn : n ≠ 0) (h : InS w b s n) :
    Calls Tryz.prog 56 #[.pointer (some ⟨b, 0, none⟩), .iface 57 (.int .i64 m)] w fun e w' => e = .returned (.tuple #[]) ∧ w' = w := by
  have h' : w.heap[b]? = some (.cells #[.string s, .iface 57 (.int .i64 n)] 106 (0, 0)) := by rw [← errV_pos hn]; exact h
  have c1 := cell_of_heap h' 1 (.iface 57 (.int .i64 n)) rfl
  clear h h'
  go_enter Tryz.func56, Tryz.ntmps56
  go_wp2
  go_end0
  exact ⟨rfl, rfl⟩

set_option maxRecDepth 100000 in
set_option maxHeartbeats 400000 in
theorem fail_nil (w : World) (m : Int) :
    Calls Tryz.prog 56 #[.pointer none, .iface 57 (.int .i64 m)] w fun e w' => e = .returned (.tuple #[]) ∧ w' = w := by
  go_enter Tryz.func56, Tryz.ntmps56
  go_wp2
  go_end0
  exact ⟨rfl, rfl⟩

/-- What Text answers, what is left, the first error. -/
def takeF (s : ByteArray) (e size : Int) : ByteArray × ByteArray × Int :=
  if e ≠ 0 then (ByteArray.empty, s, e) else if size < 0 then (ByteArray.empty, ByteArray.empty, 1)
  else if (s.size : Int) < size then (ByteArray.empty, ByteArray.empty, 4) else (s.extract 0 size.toNat, s.extract size.toNat s.size, 0)

/-- What fail leaves. -/
def failF (s : ByteArray) (e n : Int) : ByteArray × Int := if e ≠ 0 then (s, e) else (ByteArray.empty, n)

theorem fail_any (w : World) (b : Nat) (s : ByteArray) (e n : Int) (hn : n ≠ 0) (h : InS w b s e) :
    Calls Tryz.prog 56 #[.pointer (some ⟨b, 0, none⟩), .iface 57 (.int .i64 n)] w fun r w' => r = .returned (.tuple #[]) ∧ InS w' b (failF s e n).1 (failF s e n).2 ∧ Only b w w' := by
  by_cases he : e = 0
  · subst he
    exact fail_first w b s n hn h
  · refine (fail_again w b s e n he h).mono ?_
    rintro r w' ⟨rfl, rfl⟩
    rw [failF, if_pos he]
    exact ⟨rfl, h, Only.refl _ _⟩

set_option maxRecDepth 100000 in
set_option maxHeartbeats 400000 in
theorem intext_yes (w : World) (b : Nat) (s : ByteArray) (size : Int) (h : InS w b s 0) (h0 : 0 ≤ size) (h1 : size ≤ s.size) :
    Calls Tryz.prog 58 #[.pointer (some ⟨b, 0, none⟩), .int .i64 size] w fun e w' => e = .returned (.string (s.extract 0 size.toNat)) ∧ InS w' b (s.extract size.toNat s.size) 0 ∧ Only b w w' := by
  have h' : w.heap[b]? = some (.cells #[.string s, .nilIface] 106 (0, 0)) := h
  have c0 := cell_of_heap h' 0 _ rfl
  have c1 := cell_of_heap h' 1 .nilIface rfl
  have f0 := free_of_heap h' 0
  have H : Hid (w.heap[b]? = some (.cells #[.string s, .nilIface] 106 (0, 0))) := h'
  clear h h'
  go_enter Tryz.func58, Tryz.ntmps58
  go_wp2
  go_ret
  exact ⟨rfl, heap_set H.out 0 _, (Only.refl b w).set 0 _⟩

set_option maxRecDepth 100000 in
set_option maxHeartbeats 400000 in
theorem intext_err (w : World) (b : Nat) (s : ByteArray) (e size : Int) (h : InS w b s e) (he : e ≠ 0) :
    Calls Tryz.prog 58 #[.pointer (some ⟨b, 0, none⟩), .int .i64 size] w fun r w' => r = .returned (.string ByteArray.empty) ∧ w' = w := by
  have h' : w.heap[b]? = some (.cells #[.string s, .iface 57 (.int .i64 e)] 106 (0, 0)) := by rw [← errV_pos he]; exact h
  have c1 := cell_of_heap h' 1 (.iface 57 (.int .i64 e)) rfl
  clear h h'
  go_enter Tryz.func58, Tryz.ntmps58
  go_wp2
  go_ret
  exact ⟨rfl, rfl⟩

set_option maxRecDepth 100000 in
set_option maxHeartbeats 400000 in
theorem intext_neg (w : World) (b : Nat) (s : ByteArray) (size : Int) (h : InS w b s 0) (h0 : size < 0) :
    Calls Tryz.prog 58 #[.pointer (some ⟨b, 0, none⟩), .int .i64 size] w fun e w' => e = .returned (.string ByteArray.empty) ∧ InS w' b ByteArray.empty 1 ∧ Only b w w' := by
  have h' : w.heap[b]? = some (.cells #[.string s, .nilIface] 106 (0, 0)) := h
  have c1 := cell_of_heap h' 1 .nilIface rfl
  have H : Hid (InS w b s 0) := h
  clear h h'
  go_enter Tryz.func58, Tryz.ntmps58
  go_wp2_with (go_at_call 56; refine (fail_first w b s 1 (by decide) H.out).mono ?_; rintro e w1 ⟨rfl, hi, ho⟩)
  go_ret
  exact ⟨rfl, hi, ho⟩

set_option maxRecDepth 100000 in
set_option maxHeartbeats 400000 in
theorem intext_far (w : World) (b : Nat) (s : ByteArray) (size : Int) (h : InS w b s 0) (h0 : 0 ≤ size) (h1 : (s.size : Int) < size) :
    Calls Tryz.prog 58 #[.pointer (some ⟨b, 0, none⟩), .int .i64 size] w fun e w' => e = .returned (.string ByteArray.empty) ∧ InS w' b ByteArray.empty 4 ∧ Only b w w' := by
  have h' : w.heap[b]? = some (.cells #[.string s, .nilIface] 106 (0, 0)) := h
  have c0 := cell_of_heap h' 0 (.string s) rfl
  have c1 := cell_of_heap h' 1 .nilIface rfl
  have H : Hid (InS w b s 0) := h
  clear h h'
  go_enter Tryz.func58, Tryz.ntmps58
  go_wp2_with (go_at_call 56; refine (fail_first w b s 4 (by decide) H.out).mono ?_; rintro e w1 ⟨rfl, hi, ho⟩)
  go_ret
  exact ⟨rfl, hi, ho⟩

/-- Text, of an In that isn't nil. -/
theorem intext_any (w : World) (b : Nat) (s : ByteArray) (e size : Int) (h : InS w b s e) :
    Calls Tryz.prog 58 #[.pointer (some ⟨b, 0, none⟩), .int .i64 size] w fun r w' => r = .returned (.string (takeF s e size).1) ∧ InS w' b (takeF s e size).2.1 (takeF s e size).2.2 ∧ Only b w w' := by
  by_cases he : e = 0
  · subst he
    by_cases h0 : size < 0
    · have := intext_neg w b s size h h0
      simpa [takeF, h0] using this
    · by_cases h1 : (s.size : Int) < size
      · have := intext_far w b s size h (by omega) h1
        simpa [takeF, h0, h1] using this
      · have := intext_yes w b s size h (by omega) (by omega)
        simpa [takeF, h0, h1] using this
  · refine (intext_err w b s e size h he).mono ?_
    rintro r w' ⟨rfl, rfl⟩
    rw [takeF, if_pos he]
    exact ⟨rfl, h, Only.refl _ _⟩

set_option maxRecDepth 100000 in
set_option maxHeartbeats 400000 in
theorem intext_nil (w : World) (size : Int) :
    Calls Tryz.prog 58 #[.pointer none, .int .i64 size] w fun r w' => r = .returned (.string ByteArray.empty) ∧ w' = w := by
  go_enter Tryz.func58, Tryz.ntmps58
  go_wp2
  go_ret
  exact ⟨rfl, rfl⟩

/-- What Num answers, what is left, the first error. -/
def inNumF (s : ByteArray) (e size : Int) : Int × ByteArray × Int :=
  if 1 ≤ size ∧ size ≤ 7 then (getF (takeF s e size).1, (takeF s e size).2) else (0, failF s e 1)

set_option maxRecDepth 100000 in
set_option maxHeartbeats 400000 in
/-- Num, of an In that isn't nil. -/
theorem innum_any (w : World) (b : Nat) (s : ByteArray) (e size : Int) (h : InS w b s e) :
    Calls Tryz.prog 46 #[.pointer (some ⟨b, 0, none⟩), .int .i64 size] w fun r w' => r = .returned (.int .i64 (inNumF s e size).1) ∧ InS w' b (inNumF s e size).2.1 (inNumF s e size).2.2 ∧ Only b w w' := by
  have H : Hid (InS w b s e) := h
  clear h
  by_cases hs : 1 ≤ size ∧ size ≤ 7
  · obtain ⟨h1, h7⟩ := hs
    have HF : Hid (inNumF s e size = (getF (takeF s e size).1, (takeF s e size).2)) := if_pos ⟨h1, h7⟩
    go_enter Tryz.func46, Tryz.ntmps46
    go_wp2_with (go_at_call 50; refine (isSize_any _ _).mono ?_; rintro r w ⟨rfl, rfl⟩)
    refine (intext_any w b s e size H.out).mono ?_
    rintro r w1 ⟨rfl, hi, ho⟩
    go_wp2_with (go_at_call 57; refine (get_any _ _).mono ?_; rintro r w1 ⟨rfl, rfl⟩)
    go_ret
    rw [HF.out]
    exact ⟨rfl, hi, ho⟩
  · have hd : (decide (1 ≤ size) && decide (size ≤ 7)) = false := by simp; omega
    have HF : Hid (inNumF s e size = (0, failF s e 1)) := if_neg hs
    clear hs
    go_enter Tryz.func46, Tryz.ntmps46
    go_wp2_with (go_at_call 50; refine (isSize_any _ _).mono ?_; rintro r w ⟨rfl, rfl⟩)
    refine (fail_any w b s e 1 (by decide) H.out).mono ?_
    rintro r w1 ⟨rfl, hi, ho⟩
    go_wp2
    go_ret
    rw [HF.out]
    exact ⟨rfl, hi, ho⟩

set_option maxRecDepth 100000 in
set_option maxHeartbeats 400000 in
theorem innum_nil (w : World) (size : Int) :
    Calls Tryz.prog 46 #[.pointer none, .int .i64 size] w fun r w' => r = .returned (.int .i64 0) ∧ w' = w := by
  by_cases hs : 1 ≤ size ∧ size ≤ 7
  · obtain ⟨h1, h7⟩ := hs
    go_enter Tryz.func46, Tryz.ntmps46
    go_wp2_with (go_at_call 50; refine (isSize_any _ _).mono ?_; rintro r w ⟨rfl, rfl⟩)
    refine (intext_nil w size).mono ?_
    rintro r w ⟨rfl, rfl⟩
    go_wp2_with (go_at_call 57; refine (get_any _ _).mono ?_; rintro r w ⟨rfl, rfl⟩)
    go_ret
    exact ⟨rfl, rfl⟩
  · have hd : (decide (1 ≤ size) && decide (size ≤ 7)) = false := by simp; omega
    clear hs
    go_enter Tryz.func46, Tryz.ntmps46
    go_wp2_with (go_at_call 50; refine (isSize_any _ _).mono ?_; rintro r w ⟨rfl, rfl⟩)
    refine (fail_nil w 1).mono ?_
    rintro r w ⟨rfl, rfl⟩
    go_wp2
    go_ret
    exact ⟨rfl, rfl⟩

/-- What End answers. -/
def endF (s : ByteArray) (e : Int) : Int := if e ≠ 0 then e else if s = ByteArray.empty then 0 else 10

set_option maxRecDepth 100000 in
set_option maxHeartbeats 400000 in
/-- End, of an In that isn't nil. -/
theorem end_any (w : World) (b : Nat) (s : ByteArray) (e : Int) (h : InS w b s e) :
    Calls Tryz.prog 48 #[.pointer (some ⟨b, 0, none⟩)] w fun r w' => r = .returned (errV (endF s e)) ∧ w' = w := by
  by_cases he : e = 0
  · subst he
    have h' : w.heap[b]? = some (.cells #[.string s, .nilIface] 106 (0, 0)) := h
    have c0 := cell_of_heap h' 0 (.string s) rfl
    have c1 := cell_of_heap h' 1 .nilIface rfl
    clear h h'
    by_cases hs : s = ByteArray.empty
    · have hq := isEmpty_true hs
      have HF : Hid (errV (endF s 0) = .nilIface) := by show errV _ = _; simp [endF, hs, errV]
      clear hs
      go_enter Tryz.func48, Tryz.ntmps48
      go_wp2
      go_ret
      rw [HF.out]
      exact ⟨rfl, rfl⟩
    · have hq := isEmpty_false hs
      have HF : Hid (errV (endF s 0) = .iface 57 (.int .i64 10)) := by show errV _ = _; simp [endF, hs, errV]
      clear hs
      go_enter Tryz.func48, Tryz.ntmps48
      go_wp2
      go_ret
      rw [HF.out]
      exact ⟨rfl, rfl⟩
  · have h' : w.heap[b]? = some (.cells #[.string s, .iface 57 (.int .i64 e)] 106 (0, 0)) := by rw [← errV_pos he]; exact h
    have c0 := cell_of_heap h' 0 (.string s) rfl
    have c1 := cell_of_heap h' 1 (.iface 57 (.int .i64 e)) rfl
    have HF : Hid (errV (endF s e) = .iface 57 (.int .i64 e)) := by show errV _ = _; rw [endF, if_pos he, errV_pos he]
    clear h h' he
    go_enter Tryz.func48, Tryz.ntmps48
    go_wp2
    go_ret
    rw [HF.out]
    exact ⟨rfl, rfl⟩

set_option maxRecDepth 100000 in
set_option maxHeartbeats 400000 in
theorem end_nil (w : World) :
    Calls Tryz.prog 48 #[.pointer none] w fun r w' => r = .returned (errV 1) ∧ w' = w := by
  go_enter Tryz.func48, Tryz.ntmps48
  go_wp2
  go_ret
  exact ⟨rfl, rfl⟩

set_option maxRecDepth 100000 in
set_option maxHeartbeats 400000 in
/-- Read. -/
theorem read_any (w : World) (s : ByteArray) :
    Calls Tryz.prog 45 #[.string s] w fun r w' => r = .returned (.pointer (some ⟨w.heap.size, 0, none⟩)) ∧ w' = w.alloc (.cells #[.string s, .nilIface] 106) := by
  go_enter Tryz.func45, Tryz.ntmps45
  go_wp2
  go_ret
  exact ⟨rfl, rfl⟩

theorem InS_new (w : World) (s : ByteArray) : InS (w.alloc (.cells #[.string s, .nilIface] 106)) w.heap.size s 0 := by
  show (w.heap.push _)[w.heap.size]? = _
  simp [errV]

end Go.Proofs.YtkfphmhnaelflacGreatDoor.Le
