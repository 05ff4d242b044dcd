/-
  'code' of layer 1's statements, and In.Noughts, by their contracts. Condition: errors.errorType holds its handle.
-/
import Derived.Test.YtmcaiaafdbeihaaDoorLeSp
import Derived.Test.YtmcaiaafdbeihaaDoorLeAs
import Derived.Test.YtmcaiaafdbeihaaDoorLeTrim
namespace Go.Proofs.YtmcaiaafdbeihaaDoor.Le
open Go.ChangeShapes Go.WideShapes Go.ChangeAt Go.RowKit Go.Lib
open Go.Proofs.YtmcaiaafdbeihaaDoor.As (ErrT as_into)
open Go.Proofs.YtmcaiaafdbeihaaDoor.Trim (AllZ trim_any trim_empty drewN_below)

set_option maxRecDepth 100000 in
set_option maxHeartbeats 400000 in
theorem code_any (k : Int) (w : World) (hg : ErrT w) :
    Calls Tryd.prog 11 #[errV k] w fun r w' => r = .returned (.int .i64 k) ∧ Below w.heap.size w w' := by
  by_cases hk : k = 0
  · subst hk
    rw [errV_zero]
    clear hg
    go_enter Tryd.func11, Tryd.ntmps11
    go_wp2
    go_ret
    exact ⟨rfl, (Below.refl _ _).alloc (Nat.le_refl _) _⟩
  · rw [errV_pos hk]
    clear hk
    have h1 : ErrT (w.alloc (.cells #[.int .i64 0] 54)) := hg.below ((Below.refl w.heap.size w).alloc (Nat.le_refl _) _) hg.lt
    go_enter Tryd.func11, Tryd.ntmps11
    go_wp2_with fail
    refine (as_into k w.heap.size (.int .i64 0) _ h1 (by simp) (by simp)).mono ?_
    rintro r w1 ⟨rfl, hc, hb⟩
    go_wp2
    go_ret
    exact ⟨rfl, ((Below.refl _ _).alloc (Nat.le_refl _) _).trans hb⟩

/-- What Noughts leaves. -/
def noughtsF (s : ByteArray) (e size : Int) : ByteArray × Int :=
  if (takeF s e size).1.data.toList.all (fun c => c == 0) then (takeF s e size).2 else failF (takeF s e size).2.1 (takeF s e size).2.2 4

theorem takeF_size (s : ByteArray) (e size : Int) : (takeF s e size).1.size ≤ s.size := by
  unfold takeF
  split
  · simp
  · split
    · simp
    · split
      · simp
      · simp; omega

theorem Only.drewN {b : Nat} {w w' : World} (h : Only b w w') (n : Nat) : Only b w (w'.drewN n) := ⟨h.os, h.tape, h.output, h.size, h.block⟩
theorem InS.drewN {w : World} {b : Nat} {s : ByteArray} {e : Int} (h : InS w b s e) (n : Nat) : InS (w.drewN n) b s e := h

set_option maxRecDepth 100000 in
set_option maxHeartbeats 400000 in
/-- Noughts, of an In that isn't nil. -/
theorem noughts_any (w : World) (b : Nat) (s : ByteArray) (e size : Int) (h : InS w b s e) (hs : s.size ≤ 9223372036854775807) :
    Calls Tryd.prog 18 #[.pointer (some ⟨b, 0, none⟩), .int .i64 size] w fun r w' => r = .returned (.tuple #[]) ∧ InS w' b (noughtsF s e size).1 (noughtsF s e size).2 ∧ Only b w w' := by
  have hsz := takeF_size s e size
  have HF : Hid (noughtsF s e size = if (takeF s e size).1.data.toList.all (fun c => c == 0) then (takeF s e size).2 else failF (takeF s e size).2.1 (takeF s e size).2.2 4) := rfl
  have HI : Hid (InS w b s e) := h
  clear h
  go_enter Tryd.func18, Tryd.ntmps18
  go_wp2_with fail
  refine (intext_any w b s e size HI.out).mono ?_
  rintro r w1 ⟨rfl, hi, ho⟩
  generalize takeF s e size = t at *
  obtain ⟨t1, t2, t3⟩ := t
  go_wp2_with fail
  refine (trim_any _ _ (by omega)).mono ?_
  rintro r w2 ⟨⟨u, rfl, hu⟩, n, rfl⟩
  have hi2 := hi.drewN n
  have ho2 := ho.drewN n
  by_cases hz : u = ByteArray.empty
  · have q := isEmpty_true hz
    have e1 : (t1.data.toList.all fun c => c == 0) = true := by
      rw [List.all_eq_true]; intro c hc; rw [beq_iff_eq]; exact hu.1 hz c hc
    have HF2 : Hid (noughtsF s e size = (t2, t3)) := by show noughtsF s e size = _; rw [HF.out]; rw [if_pos e1]
    clear hz hu e1 hi ho
    go_wp2
    go_end0
    rw [HF2.out]
    exact ⟨rfl, hi2, ho2⟩
  · have q := isEmpty_false hz
    have e1 : ¬ (t1.data.toList.all fun c => c == 0) = true := by
      rw [List.all_eq_true]; intro hall; exact hz (hu.2 (fun c hc => beq_iff_eq.1 (hall c hc)))
    have HF2 : Hid (noughtsF s e size = failF t2 t3 4) := by show noughtsF s e size = _; rw [HF.out]; rw [if_neg e1]
    clear hz hu e1 hi ho
    go_wp2_with fail
    refine (fail_any _ b t2 t3 4 (by decide) hi2).mono ?_
    rintro r w3 ⟨rfl, hi3, ho3⟩
    go_wp2
    go_end0
    rw [HF2.out]
    exact ⟨rfl, hi3, ho2.trans ho3⟩

set_option maxRecDepth 100000 in
set_option maxHeartbeats 400000 in
theorem noughts_nil (w : World) (size : Int) :
    Calls Tryd.prog 18 #[.pointer none, .int .i64 size] w fun r w' => r = .returned (.tuple #[]) ∧ w' = w := by
  go_enter Tryd.func18, Tryd.ntmps18
  go_wp2_with fail
  refine (intext_nil w size).mono ?_
  rintro r w ⟨rfl, rfl⟩
  go_wp2_with fail
  refine (trim_empty _).mono ?_
  rintro r w ⟨rfl, rfl⟩
  go_wp2
  go_end0
  exact ⟨rfl, rfl⟩

set_option maxRecDepth 100000 in
set_option maxHeartbeats 400000 in
theorem leNil_walk (n size : Int) (w : World) (hg : ErrT w) :
    Calls Tryd.prog 5 #[.int .i64 n, .int .i64 size] w fun r w' => r = .returned (.bool true) ∧ Below w.heap.size w w' := by
  have HG : Hid (ErrT w) := hg
  clear hg
  go_enter Tryd.func5, Tryd.ntmps5
  go_wp2_with fail
  refine (speaks_any _).mono ?_
  rintro r w1 ⟨rfl, hb1⟩
  go_wp2_with fail
  refine (num_nil _ _ _).mono ?_
  rintro r w2 ⟨rfl, hb2⟩
  go_wp2_with fail
  refine (text_nil _ _ _).mono ?_
  rintro r w2 ⟨rfl, rfl⟩
  go_wp2_with fail
  refine (noughts_nil _ _).mono ?_
  rintro r w2 ⟨rfl, rfl⟩
  go_wp2_with fail
  refine (string_nil _).mono ?_
  rintro r w2 ⟨rfl, rfl⟩
  have hb3 := hb1.trans (hb2.mono hb1.size)
  have hg3 := HG.out.below hb3 HG.out.lt
  have HB3 : Hid (Below w.heap.size w w2) := hb3
  have HG3 : Hid (ErrT w2) := hg3
  clear hb1 hb2 hb3 hg3
  go_wp2_with fail
  refine (code_any 1 _ HG3.out).mono ?_
  rintro r w3 ⟨rfl, hb4⟩
  have HB4 : Hid (Below w.heap.size w w3) := HB3.out.trans (hb4.mono HB3.out.size)
  have HG4 : Hid (ErrT w3) := HG.out.below HB4.out HG.out.lt
  clear hb4
  go_wp2_with fail
  refine (innum_nil _ _).mono ?_
  rintro r w3 ⟨rfl, rfl⟩
  go_wp2_with fail
  refine (intext_nil _ _).mono ?_
  rintro r w3 ⟨rfl, rfl⟩
  go_wp2_with fail
  refine (end_nil _).mono ?_
  rintro r w3 ⟨rfl, rfl⟩
  go_wp2_with fail
  refine (code_any 1 _ HG4.out).mono ?_
  rintro r w4 ⟨rfl, hb5⟩
  go_wp2
  go_ret
  exact ⟨rfl, HB4.out.trans (hb5.mono HB4.out.size)⟩

theorem leNil_calls (n size : Int) (w : World) (_ : (Lit.int .i64 n).wf = true) (_ : (Lit.int .i64 size).wf = true) (hg : ErrT w) :
    Calls Tryd.prog 5 #[.int .i64 n, .int .i64 size] w fun r w' => r = .returned (.bool true) ∧ Below w.heap.size w w' := leNil_walk n size w hg

end Go.Proofs.YtmcaiaafdbeihaaDoor.Le
