/-
  The document's own In (Take, Num, Noughts, End) by its contracts; it keeps step with le.In. No condition.
-/
import Derived.Test.YtmcaiaafdbeihaaDoorLeCode
namespace Go.Proofs.YtmcaiaafdbeihaaDoor.Le
open Go.ChangeShapes Go.WideShapes Go.ChangeAt Go.RowKit Go.Lib

/-- The document's In at block c. -/
def RefS (w : World) (c : Nat) (s : ByteArray) (e : Int) : Prop := w.heap[c]? = some (.cells #[.string s, .int .i64 e] 45 (0, 0))

/-- What Take answers, what is left, the first error. -/
def rtakeF (s : ByteArray) (e size : Int) : ByteArray × ByteArray × Int :=
  if e ≠ 0 then (ByteArray.empty, s, e) else if size < 0 then (ByteArray.empty, s, 1)
  else if (s.size : Int) < size then (ByteArray.empty, s, 4) else (s.extract 0 size.toNat, s.extract size.toNat s.size, 0)

set_option maxRecDepth 100000 in
set_option maxHeartbeats 400000 in
theorem rtake_any (w : World) (c : Nat) (s : ByteArray) (e size : Int) (h : RefS w c s e) :
    Calls Tryd.prog 17 #[.pointer (some ⟨c, 0, none⟩), .int .i64 size] w fun r w' => r = .returned (.string (rtakeF s e size).1) ∧ RefS w' c (rtakeF s e size).2.1 (rtakeF s e size).2.2 ∧ Only c w w' := by
  have c0 := cell_of_heap h 0 (.string s) rfl
  have c1 := cell_of_heap h 1 (.int .i64 e) rfl
  have f0 := free_of_heap h 0
  have f1 := free_of_heap h 1
  have H : Hid (w.heap[c]? = some (.cells #[.string s, .int .i64 e] 45 (0, 0))) := h
  clear h
  by_cases he : e = 0
  · subst he
    by_cases h0 : size < 0
    · have HF : Hid (rtakeF s 0 size = (ByteArray.empty, s, 1)) := by show rtakeF _ _ _ = _; simp [rtakeF, h0]
      have d1 : (w.setCell ⟨c, 1, none⟩ (.int .i64 1)).cell? ⟨c, 1, none⟩ = some (.int .i64 1) := World.cell?_setCell_same _ _ _ c1
      go_enter Tryd.func17, Tryd.ntmps17
      go_wp2
      go_ret
      rw [HF.out]
      exact ⟨rfl, heap_set H.out 1 _, (Only.refl c w).set 1 _⟩
    · by_cases h1 : (s.size : Int) < size
      · have HF : Hid (rtakeF s 0 size = (ByteArray.empty, s, 4)) := by show rtakeF _ _ _ = _; simp [rtakeF, h0, h1]
        have d1 : (w.setCell ⟨c, 1, none⟩ (.int .i64 4)).cell? ⟨c, 1, none⟩ = some (.int .i64 4) := World.cell?_setCell_same _ _ _ c1
        have h0' : 0 ≤ size := by omega
        go_enter Tryd.func17, Tryd.ntmps17
        go_wp2
        go_ret
        rw [HF.out]
        exact ⟨rfl, heap_set H.out 1 _, (Only.refl c w).set 1 _⟩
      · have HF : Hid (rtakeF s 0 size = (s.extract 0 size.toNat, s.extract size.toNat s.size, 0)) := by show rtakeF _ _ _ = _; simp [rtakeF, h0, h1]
        have h0' : 0 ≤ size := by omega
        have h1' : size ≤ s.size := by omega
        go_enter Tryd.func17, Tryd.ntmps17
        go_wp2
        go_ret
        rw [HF.out]
        exact ⟨rfl, heap_set H.out 0 _, (Only.refl c w).set 0 _⟩
  · have HF : Hid (rtakeF s e size = (ByteArray.empty, s, e)) := by show rtakeF _ _ _ = _; simp [rtakeF, he]
    have q : (e == 0) = false := beq_eq_false_iff_ne.2 he
    have q' : (e != 0) = true := by rw [bne_iff_ne]; exact he
    clear he
    go_enter Tryd.func17, Tryd.ntmps17
    go_wp2
    go_ret
    rw [HF.out]
    exact ⟨rfl, H.out, Only.refl _ _⟩

/-- What the document's Num answers, what is left, the first error. -/
def rnumF (s : ByteArray) (e size : Int) : Int × ByteArray × Int :=
  if e = 0 ∧ (size < 1 ∨ 7 < size) then (0, s, 1) else (getF (rtakeF s e size).1, (rtakeF s e size).2)

theorem getF_empty : getF ByteArray.empty = 0 := rfl

set_option maxRecDepth 100000 in
set_option maxHeartbeats 400000 in
theorem rnum_any (w : World) (c : Nat) (s : ByteArray) (e size : Int) (h : RefS w c s e) :
    Calls Tryd.prog 16 #[.pointer (some ⟨c, 0, none⟩), .int .i64 size] w fun r w' => r = .returned (.int .i64 (rnumF s e size).1) ∧ RefS w' c (rnumF s e size).2.1 (rnumF s e size).2.2 ∧ Only c w w' := by
  have c1 := cell_of_heap h 1 (.int .i64 e) rfl
  have f1 := free_of_heap h 1
  have H : Hid (RefS w c s e) := h
  clear h
  by_cases he : e = 0
  · subst he
    by_cases hs : 1 ≤ size ∧ size ≤ 7
    · obtain ⟨h1, h7⟩ := hs
      have HF : Hid (rnumF s 0 size = (getF (rtakeF s 0 size).1, (rtakeF s 0 size).2)) := by show rnumF _ _ _ = _; rw [rnumF, if_neg (by omega)]
      go_enter Tryd.func16, Tryd.ntmps16
      go_wp2_with fail
      refine (rtake_any w c s 0 size H.out).mono ?_
      rintro r w1 ⟨rfl, hi, ho⟩
      go_wp2_with (go_at_call 27; refine (refget_any _ _).mono ?_; rintro r w1 ⟨rfl, rfl⟩)
      go_ret
      rw [HF.out]
      exact ⟨rfl, hi, ho⟩
    · have HF : Hid (rnumF s 0 size = (0, s, 1)) := by show rnumF _ _ _ = _; rw [rnumF, if_pos (by omega)]
      have H1 : Hid (RefS (w.setCell ⟨c, 1, none⟩ (.int .i64 1)) c s 1) := heap_set H.out 1 _
      have HT : Hid (rtakeF s 1 size = (ByteArray.empty, s, 1)) := by show rtakeF _ _ _ = _; simp [rtakeF]
      by_cases h1 : size < 1
      · clear hs
        go_enter Tryd.func16, Tryd.ntmps16
        go_wp2_with fail
        refine (rtake_any _ c s 1 size H1.out).mono ?_
        rw [HT.out]
        rintro r w1 ⟨rfl, hi, ho⟩
        go_wp2_with (go_at_call 27; refine (refget_any _ _).mono ?_; rintro r w1 ⟨rfl, rfl⟩)
        go_ret
        rw [HF.out]
        exact ⟨rfl, hi, ((Only.refl c w).set 1 _).trans ho⟩
      · have h7 : 7 < size := by omega
        clear hs
        go_enter Tryd.func16, Tryd.ntmps16
        go_wp2_with fail
        refine (rtake_any _ c s 1 size H1.out).mono ?_
        rw [HT.out]
        rintro r w1 ⟨rfl, hi, ho⟩
        go_wp2_with (go_at_call 27; refine (refget_any _ _).mono ?_; rintro r w1 ⟨rfl, rfl⟩)
        go_ret
        rw [HF.out]
        exact ⟨rfl, hi, ((Only.refl c w).set 1 _).trans ho⟩
  · have HF : Hid (rnumF s e size = (getF (rtakeF s e size).1, (rtakeF s e size).2)) := by show rnumF _ _ _ = _; rw [rnumF, if_neg (fun h => he h.1)]
    have q : (e == 0) = false := beq_eq_false_iff_ne.2 he
    clear he
    go_enter Tryd.func16, Tryd.ntmps16
    go_wp2_with fail
    refine (rtake_any w c s e size H.out).mono ?_
    rintro r w1 ⟨rfl, hi, ho⟩
    go_wp2_with (go_at_call 27; refine (refget_any _ _).mono ?_; rintro r w1 ⟨rfl, rfl⟩)
    go_ret
    rw [HF.out]
    exact ⟨rfl, hi, ho⟩

/-- What the document's Noughts leaves. -/
def rnoughtsF (s : ByteArray) (e size : Int) : ByteArray × Int :=
  if (rtakeF s e size).1.data.toList.all (fun c => c == 0) then (rtakeF s e size).2 else ((rtakeF s e size).2.1, if (rtakeF s e size).2.2 = 0 then 4 else (rtakeF s e size).2.2)

/-- The error's number behind k bytes of t. -/
def nq (t : ByteArray) (e : Int) (k : Nat) : Int := if (t.data.toList.take k).all (fun c => c == 0) then e else if e = 0 then 4 else e

theorem nq_zero (t : ByteArray) (e : Int) : nq t e 0 = e := by simp [nq]
theorem nq_same (t : ByteArray) (e : Int) (k : Nat) (h : k < t.size) (h0 : t[k] = 0) : nq t e (k + 1) = nq t e k := by
  unfold nq; rw [take_snoc t k h, List.all_append]; simp [h0]
theorem nq_set (t : ByteArray) (e : Int) (k : Nat) (h : k < t.size) (h0 : t[k] ≠ 0) (hq : nq t e k = 0) : nq t e (k + 1) = 4 := by
  unfold nq at *; rw [take_snoc t k h, List.all_append]
  have hb : (t[k] == 0) = false := beq_eq_false_iff_ne.2 h0
  simp only [List.all_cons, hb, Bool.false_and, Bool.and_false]
  split at hq
  · subst hq; simp
  · split at hq <;> omega
theorem nq_keep (t : ByteArray) (e : Int) (k : Nat) (h : k < t.size) (hq : nq t e k ≠ 0) : nq t e (k + 1) = nq t e k := by
  by_cases h0 : t[k] = 0
  · exact nq_same t e k h h0
  · unfold nq at *; rw [take_snoc t k h, List.all_append]
    have hb : (t[k] == 0) = false := beq_eq_false_iff_ne.2 h0
    simp only [List.all_cons, hb, Bool.false_and, Bool.and_false]
    by_cases ha : ((t.data.toList.take k).all fun c => c == 0) = true
    · rw [if_pos ha] at hq ⊢; rw [if_neg (by decide), if_neg hq]
    · rw [if_neg ha, if_neg (by decide)]

set_option maxRecDepth 100000 in
set_option maxHeartbeats 400000 in
theorem rnoughts_any (w : World) (c : Nat) (s : ByteArray) (e size : Int) (h : RefS w c s e) (hs : s.size ≤ 9223372036854775807) :
    Calls Tryd.prog 19 #[.pointer (some ⟨c, 0, none⟩), .int .i64 size] w fun r w' => r = .returned (.tuple #[]) ∧ RefS w' c (rnoughtsF s e size).1 (rnoughtsF s e size).2 ∧ Only c w w' := by
  have hsz : (rtakeF s e size).1.size ≤ s.size := by
    unfold rtakeF
    split
    · simp
    · split
      · simp
      · split
        · simp
        · simp; omega
  have HF : Hid (rnoughtsF s e size = ((rtakeF s e size).2.1, nq (rtakeF s e size).1 (rtakeF s e size).2.2 (rtakeF s e size).1.size)) := by
    show rnoughtsF s e size = _
    unfold rnoughtsF nq
    rw [List.take_of_length_le (by simp)]
    split <;> rfl
  have H : Hid (RefS w c s e) := h
  clear h
  go_enter Tryd.func19, Tryd.ntmps19
  go_wp2_with fail
  refine (rtake_any w c s e size H.out).mono ?_
  rintro r w1 ⟨rfl, hi, ho⟩
  generalize rtakeF s e size = t at *
  obtain ⟨t, t2, t3⟩ := t
  have HI : Hid (RefS w1 c t2 t3) := hi
  have HO : Hid (Only c w w1) := ho
  have htz : t.size ≤ 9223372036854775807 := Nat.le_trans hsz hs
  clear hi ho hsz
  go_wp2_with fail
  go_loopw [5] (fun i wr => ∃ k : Nat, k ≤ t.size ∧ i = .int .i64 k ∧ RefS wr c t2 (nq t t3 k) ∧ Only c w wr) (fun i _ => t.size - (intOf i).toNat)
  case atStart => exact ⟨0, Nat.zero_le _, rfl, by rw [nq_zero]; exact HI.out, HO.out⟩
  case round =>
    obtain ⟨k, hk, rfl, hr, ho⟩ := hrel
    have HR : Hid (RefS wr c t2 (nq t t3 k)) := hr
    have HO2 : Hid (Only c w wr) := ho
    have c1 := cell_of_heap hr 1 (.int .i64 (nq t t3 k)) rfl
    have f1 := free_of_heap hr 1
    clear hr ho
    by_cases hlt : k < t.size
    · by_cases hz : t[k] = 0
      · have q1 : (((t[k].toNat : Nat) : Int) != 0) = false := by rw [hz]; rfl
        have HN : Hid (nq t t3 (k + 1) = nq t t3 k) := nq_same t t3 k hlt hz
        clear hz
        go_wp2
        go_roundw
        case rel => exact ⟨k + 1, by omega, by go_num, by rw [HN.out]; exact HR.out, HO2.out⟩
        case measure => simp [intOf]; omega
      · have q1 : (((t[k].toNat : Nat) : Int) != 0) = true := by
          rw [bne_iff_ne]; intro e; exact hz (UInt8.toNat_inj.1 (by simpa using e))
        by_cases hq : nq t t3 k = 0
        · have q2 : (nq t t3 k == 0) = true := beq_iff_eq.2 hq
          have HN : Hid (nq t t3 (k + 1) = 4) := nq_set t t3 k hlt hz hq
          clear hz hq
          go_wp2
          go_roundw
          case rel => exact ⟨k + 1, by omega, by go_num, by rw [HN.out]; exact heap_set HR.out 1 _, HO2.out.set 1 _⟩
          case measure => simp [intOf]; omega
        · have q2 : (nq t t3 k == 0) = false := beq_eq_false_iff_ne.2 hq
          have HN : Hid (nq t t3 (k + 1) = nq t t3 k) := nq_keep t t3 k hlt hq
          clear hz hq
          go_wp2
          go_roundw
          case rel => exact ⟨k + 1, by omega, by go_num, by rw [HN.out]; exact HR.out, HO2.out⟩
          case measure => simp [intOf]; omega
    · go_wp2
      go_end0
      rw [HF.out]
      obtain rfl : k = t.size := by omega
      exact ⟨rfl, HR.out, HO2.out⟩

set_option maxRecDepth 100000 in
set_option maxHeartbeats 400000 in
theorem rend_any (w : World) (c : Nat) (s : ByteArray) (e : Int) (h : RefS w c s e) :
    Calls Tryd.prog 20 #[.pointer (some ⟨c, 0, none⟩)] w fun r w' => r = .returned (.int .i64 (endF s e)) ∧ w' = w := by
  have c0 := cell_of_heap h 0 (.string s) rfl
  have c1 := cell_of_heap h 1 (.int .i64 e) rfl
  clear h
  by_cases he : e = 0
  · subst he
    by_cases hs : s = ByteArray.empty
    · have q := isEmpty_true hs
      have HF : Hid (endF s 0 = 0) := by show endF _ _ = _; simp [endF, hs]
      clear hs
      go_enter Tryd.func20, Tryd.ntmps20
      go_wp2
      go_ret
      rw [HF.out]
      exact ⟨rfl, rfl⟩
    · have q := isEmpty_false hs
      have HF : Hid (endF s 0 = 10) := by show endF _ _ = _; simp [endF, hs]
      clear hs
      go_enter Tryd.func20, Tryd.ntmps20
      go_wp2
      go_ret
      rw [HF.out]
      exact ⟨rfl, rfl⟩
  · have HF : Hid (endF s e = e) := by show endF _ _ = _; simp [endF, he]
    have q : (e == 0) = false := beq_eq_false_iff_ne.2 he
    clear he
    go_enter Tryd.func20, Tryd.ntmps20
    go_wp2
    go_ret
    rw [HF.out]
    exact ⟨rfl, rfl⟩

/-! ### Both keep step -/

/-- le.In and the document's In stand alike. -/
def Alike (s : ByteArray) (e : Int) (s' : ByteArray) (e' : Int) : Prop := e' = e ∧ (e = 0 → s' = s)

theorem alike_take {s s' : ByteArray} {e e' : Int} (h : Alike s e s' e') (size : Int) :
    (rtakeF s' e' size).1 = (takeF s e size).1 ∧ Alike (takeF s e size).2.1 (takeF s e size).2.2 (rtakeF s' e' size).2.1 (rtakeF s' e' size).2.2 := by
  obtain ⟨rfl, h⟩ := h
  by_cases he : e' = 0
  · subst he
    obtain rfl := h rfl
    by_cases h0 : size < 0
    · simp [rtakeF, takeF, h0, Alike]
    · by_cases h1 : (s'.size : Int) < size
      · simp [rtakeF, takeF, h0, h1, Alike]
      · simp [rtakeF, takeF, h0, h1, Alike]
  · simp [rtakeF, takeF, he, Alike]

theorem alike_num {s s' : ByteArray} {e e' : Int} (h : Alike s e s' e') (size : Int) :
    (rnumF s' e' size).1 = (inNumF s e size).1 ∧ Alike (inNumF s e size).2.1 (inNumF s e size).2.2 (rnumF s' e' size).2.1 (rnumF s' e' size).2.2 := by
  have ht := alike_take h size
  obtain ⟨rfl, h'⟩ := h
  by_cases hs : 1 ≤ size ∧ size ≤ 7
  · rw [inNumF, if_pos hs, rnumF, if_neg (by omega)]
    exact ⟨by simp only; rw [ht.1], ht.2⟩
  · rw [inNumF, if_neg hs]
    by_cases he : e' = 0
    · subst he
      rw [rnumF, if_pos (by omega), failF, if_neg (by simp)]
      simp [Alike]
    · rw [rnumF, if_neg (fun h => he h.1), failF, if_pos he]
      simp [rtakeF, he, Alike, getF_empty]

theorem alike_noughts {s s' : ByteArray} {e e' : Int} (h : Alike s e s' e') (size : Int) :
    Alike (noughtsF s e size).1 (noughtsF s e size).2 (rnoughtsF s' e' size).1 (rnoughtsF s' e' size).2 := by
  have ht := alike_take h size
  unfold noughtsF rnoughtsF
  rw [ht.1]
  obtain ⟨h1, h2⟩ := ht.2
  by_cases ha : ((takeF s e size).1.data.toList.all fun c => c == 0) = true
  · rw [if_pos ha, if_pos ha]; exact ⟨h1, h2⟩
  · rw [if_neg ha, if_neg ha]
    unfold failF
    by_cases he : (takeF s e size).2.2 = 0
    · rw [if_neg (by simpa using he)]; simp [Alike, h1, he]
    · rw [if_pos he]; simp [Alike, h1, he]

theorem alike_end {s s' : ByteArray} {e e' : Int} (h : Alike s e s' e') : endF s' e' = endF s e := by
  obtain ⟨rfl, h⟩ := h
  unfold endF
  by_cases he : e' = 0
  · subst he; rw [h rfl]
  · simp [he]

end Go.Proofs.YtmcaiaafdbeihaaDoor.Le
