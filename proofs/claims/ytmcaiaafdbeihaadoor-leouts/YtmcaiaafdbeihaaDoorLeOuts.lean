/-
  LeOuts answers true for every input: numbers and texts put one behind the other, and read again. Condition: errors.errorType holds its handle.
-/
import Derived.Test.YtmcaiaafdbeihaaDoorLeOutsM
import Derived.RegionTactic
import Derived.BigRegion
import Derived.Laws.MakeOwn
import Derived.Deep.RegionHeld3
namespace Go.Proofs.YtmcaiaafdbeihaaDoor.Le
open Go.ChangeShapes Go.WideShapes Go.ChangeAt Go.RowKit Go.Lib
open Go.Proofs.YtmcaiaafdbeihaaDoor.As (ErrT)

/-- Noughts as a string. -/
def zstr (m : Nat) : ByteArray := ⟨(List.replicate m 0).toArray⟩
theorem zstr_size (m : Nat) : (zstr m).size = m := by simp [zstr, ByteArray.size]

theorem make_run (m : Int) (h0 : 0 ≤ m) (h1 : m ≤ 100) (W : World) :
    Sem.run Tryd.prog (Instr.makeSlice 24 (.int .i64 m) (.int .i64 m)) W = .ok (.slice (some ⟨W.heap.size, 0, none⟩) m.toNat m.toNat) (W.alloc (.cells (madeCells (Value.int .u8 0).cells m.toNat) 5)) := by
  obtain ⟨i0, hi, hi2⟩ := Option.map_eq_some_iff.1 infoU8
  have hz0 : i0.zero = some (.int .u8 0) := by have := congrArg Prod.fst hi2; exact this
  have hz1 : i0.size = 1 := congrArg (fun x => x.2.1) hi2
  have hz2 : i0.bytes = 1 := congrArg (fun x => x.2.2) hi2
  have := run_makeSlice (P := Tryd.prog) W 24 5 i0 (.int .u8 0) Tryd.underlying24 hi hz0 .i64 .i64 m m h0 (Int.le_refl _) (by rw [hz1]; omega) (by rw [hz2]; omega) (by omega)
  rw [hz1, Nat.mul_one] at this
  exact this

theorem conv_made (m : Nat) (W : World) :
    Sem.run Tryd.prog (convert 24 9 (.slice (some ⟨W.heap.size, 0, none⟩) m m)) (W.alloc (.cells (madeCells (Value.int .u8 0).cells m) 5)) = .ok (.string (zstr m)) (W.alloc (.cells (madeCells (Value.int .u8 0).cells m) 5)) := by
  have := run_convert_bytes_arg (P := Tryd.prog) (W.alloc (.cells (madeCells (Value.int .u8 0).cells m) 5)) 24 5 Tryd.underlying24 Tryd.underlying5 W.heap.size 0 m m (List.replicate m 0) (by simp) (by
    intro i hi
    rw [World.cell?_alloc_new]
    have hc : (Value.int IntKind.u8 0).cells = #[Value.int .u8 0] := rfl
    simp [madeCells, hi, hc, Nat.mod_one]) 9 Tryd.underlying9
  rw [this]
  have e : strOfNums (List.replicate m 0) = zstr m := by
    simp [strOfNums, zstr]
  rw [e]

theorem conv_made' (W : World) (m : Nat) :
    Sem.run Tryd.prog (convert 24 9 (.slice (some ⟨W.heap.size, 0, none⟩) m m)) (W.alloc (.cells (madeCells #[Value.int .u8 0] m) 5)).drew = .ok (.string (zstr m)) (W.alloc (.cells (madeCells #[Value.int .u8 0] m) 5)).drew :=
  conv_made m W.drew

/-- What holds at the first loop's head. -/
def OInv (w0 : World) (o : Nat) (L : Nat → Item) (k : Nat) (want long : Value) (wr : World) : Prop :=
  ∃ wt : ByteArray, want = .string wt ∧ wt.size ≤ 60 * k ∧ long = .bool (stAt L k).isNone ∧ OutS wr o (stAt L k) ∧ (∀ xs, stAt L k = some xs → wt = ⟨xs.toArray⟩) ∧ Below w0.heap.size w0 wr

/-- A text that goes into its size. -/
theorem oinv_text {w0 w2 : World} {o : Nat} {L : Nat → Item} {k : Nat} {wt : ByteArray} (hwt : wt.size ≤ 60 * k) (hx : ∀ xs, stAt L k = some xs → wt = ⟨xs.toArray⟩) (ho : OutS w2 o (stAt L (k + 1))) (hb : Below w0.heap.size w0 w2)
    (hT : (L k).isText = true) (hle : ((cutT (L k)).size : Int) ≤ cutS (L k)) (ob : Obj) :
    OInv w0 o L (k + 1) (.string (wt ++ (cutT (L k) ++ zstr ((cutS (L k)).toNat - (cutT (L k)).size)))) (.bool (stAt L k).isNone) (w2.alloc ob).drew := by
  have hp : pieceF (L k) = some ((cutT (L k)).data.toList ++ List.replicate (cutS (L k) - (cutT (L k)).size).toNat 0) := by rw [piece_text hT, if_pos hle]
  have hs : stAt L (k + 1) = (stAt L k).bind fun xs => some (xs ++ ((cutT (L k)).data.toList ++ List.replicate (cutS (L k) - (cutT (L k)).size).toNat 0)) := by
    show stepF _ _ = _; rw [stepF, hp]; rfl
  have hc := cutS_cases (L k)
  have ho' : OutS (w2.alloc ob) o (stAt L (k + 1)) := ho.kept ((Below.refl _ _).alloc (Nat.le_refl _) _)
  refine ⟨_, rfl, ?_, ?_, ?_, ?_, (hb.alloc hb.size _).drew⟩
  · simp only [ByteArray.size_append, zstr_size]; omega
  · rw [hs]; cases stAt L k <;> rfl
  · cases hst : stAt L (k + 1) with
    | none => rw [hst] at ho'; exact ho'
    | some ys => rw [hst] at ho'; exact ho'
  · intro xs hxs
    rw [hs] at hxs
    cases hst : stAt L k with
    | none => rw [hst] at hxs; cases hxs
    | some ys =>
      rw [hst] at hxs
      obtain rfl := Option.some.inj hxs
      rw [hx ys hst]
      apply ByteArray.ext
      have e : (cutS (L k)).toNat - (cutT (L k)).size = (cutS (L k) - (cutT (L k)).size).toNat := by omega
      rw [e]
      simp [zstr]

/-- A text that is too long. -/
theorem oinv_long {w0 w2 : World} {o : Nat} {L : Nat → Item} {k : Nat} {wt : ByteArray} (hwt : wt.size ≤ 60 * k) (ho : OutS w2 o (stAt L (k + 1))) (hb : Below w0.heap.size w0 w2)
    (hT : (L k).isText = true) (hgt : cutS (L k) < (cutT (L k)).size) : OInv w0 o L (k + 1) (.string wt) (.bool true) w2 := by
  have hs : stAt L (k + 1) = none := by
    show stepF _ _ = _; rw [stepF, piece_text hT, if_neg (by omega)]; cases stAt L k <;> rfl
  refine ⟨wt, rfl, by omega, by rw [hs]; rfl, ho, ?_, hb⟩
  intro xs hx; rw [hs] at hx; cases hx

/-- A number. -/
theorem oinv_num {w0 w2 : World} {o : Nat} {L : Nat → Item} {k : Nat} {wt : ByteArray} {l : Bool} (hwt : wt.size ≤ 60 * k) (hx : ∀ xs, stAt L k = some xs → wt = ⟨xs.toArray⟩) (ho : OutS w2 o (stAt L (k + 1))) (hb : Below w0.heap.size w0 w2)
    (hT : (L k).isText = false) (hl : l = ((stAt L k).isNone || decide (putF (L k).n (cutS (L k)) = ByteArray.empty))) :
    OInv w0 o L (k + 1) (.string (wt ++ putF (L k).n (cutS (L k)))) (.bool l) w2 := by
  have hs : stAt L (k + 1) = (stAt L k).bind fun xs => if putF (L k).n (cutS (L k)) = ByteArray.empty then none else some (xs ++ (putF (L k).n (cutS (L k))).data.toList) := by
    show stepF _ _ = _; rw [stepF, piece_num hT]
    cases stAt L k with
    | none => rfl
    | some ys => split <;> rfl
  refine ⟨_, rfl, ?_, ?_, ho, ?_, hb⟩
  · rw [ByteArray.size_append]
    by_cases he : putF (L k).n (cutS (L k)) = ByteArray.empty
    · rw [he, size_empty]; omega
    · have := putF_size he; omega
  · rw [hl, hs]
    cases stAt L k with
    | none => rfl
    | some ys =>
      by_cases he : putF (L k).n (cutS (L k)) = ByteArray.empty
      · simp [he]
      · simp [he]
  · intro xs hxs
    rw [hs] at hxs
    cases hst : stAt L k with
    | none => rw [hst] at hxs; cases hxs
    | some ys =>
      rw [hst] at hxs
      by_cases he : putF (L k).n (cutS (L k)) = ByteArray.empty
      · simp [he] at hxs
      · simp only [Option.bind_some, if_neg he] at hxs
        obtain rfl := Option.some.inj hxs
        rw [hx ys hst]
        apply ByteArray.ext
        simp

/-- The item's copy, behind a call that leaves what is apart from the Out. -/
theorem copy_kept {wr w2 : World} {o : Nat} {st : Option (List UInt8)} {c : Array Value} {t : TypeId} (ho : OutS wr o st) (hf : Frame o (wr.alloc (.cells c t)) w2) : w2.heap[wr.heap.size]? = some (.cells c t (0, 0)) := by
  rw [(hf wr.heap.size (by simp) (apart_new ho ((Below.refl _ _).alloc (Nat.le_refl _) _) _ (Nat.le_refl _))).1]
  exact heap_alloc_new wr _

set_option maxRecDepth 100000 in
set_option maxHeartbeats 400000000 in
theorem leOuts_walk (a : Option Addr) (len cap : Nat) (L : Nat → Item) (w : World) (_hlen : len ≤ maxLen) (hI : ItemsAt w a len L) (hg : ErrT w) :
    Calls Tryd.prog 3 #[.slice a len cap] w fun r w' => r = .returned (.bool true) ∧ Below w.heap.size w w' := by
  unfold maxLen at _hlen
  have HI : Hid (ItemsAt w a len L) := hI
  have HG : Hid (ErrT w) := hg
  clear hI hg
  go_enter Tryd.func3, Tryd.ntmps3
  go_wp2_with (go_at_call 6; refine (speaks_any _).mono ?_; rintro r w1 ⟨rfl, hb1⟩)
  have HS : Hid (OInv w w1.heap.size L 0 (.string ByteArray.empty) (.bool false) (w1.alloc (.cells #[.slice none 0 0, .bool false] 26))) := by
    refine ⟨ByteArray.empty, rfl, by simp, rfl, OutS_new w1, ?_, hb1.alloc hb1.size _⟩
    intro xs hx; obtain rfl := Option.some.inj hx; rfl
  have hB := hb1.size
  clear hb1
  go_loopw [4, 5, 6] (fun want long i wr => ∃ k : Nat, k ≤ len ∧ k ≤ 20 ∧ i = .int .i64 k ∧ Hid (OInv w w1.heap.size L k want long wr)) (fun _ _ i _ => 20 - (intOf i).toNat)
  case atStart => exact ⟨0, Nat.zero_le _, Nat.zero_le _, rfl, HS⟩
  case round =>
    obtain ⟨k, hk, hk20, rfl, HR⟩ := hrel
    by_cases hlt : k < len ∧ k < 20
    · obtain ⟨hl, h20⟩ := hlt
      obtain ⟨wt, rfl, hwt, rfl, ho, hx, hb⟩ := HR.out
      have HIr := HI.out.below hb (Nat.le_refl _)
      obtain ⟨bb, off, rfl, hbb, hc⟩ := HIr.1.resolve_left (by omega)
      obtain ⟨d0, d1, d2, d3⟩ := hc k hl
      have hnw := (HIr.2 k hl).2.1
      have hn63 : (L k).n ≤ 9223372036854775807 := by
        simp only [Lit.wf, IntKind.min, IntKind.max, IntKind.signed, IntKind.bits, Bool.and_eq_true, decide_eq_true_eq, if_true] at hnw
        omega
      have Ho : Hid (OutS wr w1.heap.size (stAt L k)) := ho
      have Hx : Hid (∀ xs, stAt L k = some xs → wt = ⟨xs.toArray⟩) := hx
      have Hb : Hid (Below w.heap.size w wr) := hb
      have hcz := cutT_size (L k)
      have hcs := cutS_cases (L k)
      have HM : Hid (∀ xs, stAt L k = some xs → cutS (L k) ≤ 2147483647 - xs.length) := by
        intro xs hx; have := stAt_len L k xs hx; omega
      clear hc HIr ho hx hb hbb hnw HR
      by_cases hT : (L k).isText = true
      · rcases cutT_cases (L k) with ⟨hA, hA'⟩ | ⟨hA, hA'⟩ <;> rcases hcs with ⟨hS, hS'⟩ | ⟨hS, hS'⟩
        all_goals as_aux_lemma =>
          have HT : Hid _ := hA'
          have HZ : Hid _ := hS'
          have hcs60 : cutS (L k) ≤ 60 := by omega
          clear hA' hS'
          go_wp2_with fail
          rw [← HT.out, ← HZ.out]
          refine (text_any4 _ _ _ _ _ (Ho.out.kept ((Below.refl _ _).alloc (Nat.le_refl _) _)) HM.out).mono ?_
          rintro r w2 ⟨rfl, ho3, hb3, hf3⟩
          have hx4 := copy_kept Ho.out hf3
          have hxl := lt_of_heap hx4
          have x0 := cell_of_heap hx4 0 (.string (cutT (L k))) rfl
          have x2 := cell_of_heap hx4 2 (.int .i64 (cutS (L k))) rfl
          rw [step_text _ _ hT] at ho3
          have Ho3 : Hid (OutS w2 w1.heap.size (stAt L (k + 1))) := ho3
          have Hb3 : Hid (Below w.heap.size w w2) := (Hb.out.alloc Hb.out.size _).trans (hb3.mono hB)
          clear hx4 ho3 hb3 hf3
          by_cases hgt : cutS (L k) < (cutT (L k)).size
          · go_wp2
            go_roundw
            case rel => exact ⟨k + 1, by omega, by omega, by go_num, oinv_long hwt Ho3.out Hb3.out hT hgt⟩
            case measure => simp [intOf]; omega
          · have hm0 : 0 ≤ cutS (L k) - (cutT (L k)).size := by omega
            have hm1 : cutS (L k) - (cutT (L k)).size ≤ 100 := by omega
            have hmk := make_run (cutS (L k) - (cutT (L k)).size) hm0 hm1
            have hcv := conv_made' w2
            have hzs := zstr_size
            go_wp2_with fail
            go_region
            go_wp2
            go_roundw
            case rel => exact ⟨k + 1, by omega, by omega, by go_num, oinv_text hwt Hx.out Ho3.out Hb3.out hT (by omega) _⟩
            case measure => simp [intOf]; omega
      · have hT' : (L k).isText = false := by simpa using hT
        clear hT
        rcases cutT_cases (L k) with ⟨hA, hA'⟩ | ⟨hA, hA'⟩ <;> rcases hcs with ⟨hS, hS'⟩ | ⟨hS, hS'⟩
        all_goals as_aux_lemma =>
          have HT : Hid _ := hA'
          have HZ : Hid _ := hS'
          have hcs60 : cutS (L k) ≤ 60 := by omega
          clear hA' hS'
          go_wp2_with fail
          rw [← HT.out, ← HZ.out]
          refine (num_any4 _ _ _ _ _ (Ho.out.kept ((Below.refl _ _).alloc (Nat.le_refl _) _)) HM.out).mono ?_
          rintro r w2 ⟨rfl, ho3, hb3, hf3⟩
          have hx4 := copy_kept Ho.out hf3
          have hxl := lt_of_heap hx4
          have x1 := cell_of_heap hx4 1 (.int .i64 (L k).n) rfl
          have x2 := cell_of_heap hx4 2 (.int .i64 (cutS (L k))) rfl
          rw [step_num _ _ hT'] at ho3
          have Ho3 : Hid (OutS w2 w1.heap.size (stAt L (k + 1))) := ho3
          have Hb3 : Hid (Below w.heap.size w w2) := (Hb.out.alloc Hb.out.size _).trans (hb3.mono hB)
          clear hx4 ho3 hb3 hf3
          go_wp2_with fail
          refine (refput_any _ _ _ hn63).mono ?_
          rintro r w3 ⟨rfl, hb4⟩
          have Ho4 : Hid (OutS w3 w1.heap.size (stAt L (k + 1))) := Ho3.out.kept hb4
          have Hb4 : Hid (Below w.heap.size w w3) := Hb3.out.trans (hb4.mono Hb3.out.size)
          clear hb4
          have hps : (putF (L k).n (cutS (L k))).size ≤ 7 := by
            by_cases he : putF (L k).n (cutS (L k)) = ByteArray.empty
            · rw [he, size_empty]; omega
            · have := putF_size he; omega
          by_cases hst : (stAt L k).isNone = true
          · go_wp2
            go_roundw
            case rel => exact ⟨k + 1, by omega, by omega, by go_num, oinv_num hwt Hx.out Ho4.out Hb4.out hT' (by rw [hst]; rfl)⟩
            case measure => simp [intOf]; omega
          · have hst' : (stAt L k).isNone = false := Bool.eq_false_iff.2 hst
            clear hst
            by_cases he : putF (L k).n (cutS (L k)) = ByteArray.empty
            · have q := isEmpty_true he
              have HE : Hid (putF (L k).n (cutS (L k)) = ByteArray.empty) := he
              clear he
              go_wp2
              go_roundw
              case rel => exact ⟨k + 1, by omega, by omega, by go_num, oinv_num hwt Hx.out Ho4.out Hb4.out hT' (by rw [hst']; simp [HE.out])⟩
              case measure => simp [intOf]; omega
            · have q := isEmpty_false he
              have HE : Hid (putF (L k).n (cutS (L k)) ≠ ByteArray.empty) := he
              clear he
              go_wp2
              go_roundw
              case rel => exact ⟨k + 1, by omega, by omega, by go_num, oinv_num hwt Hx.out Ho4.out Hb4.out hT' (by rw [hst']; simp [HE.out])⟩
              case measure => simp [intOf]; omega
    · obtain ⟨wt, rfl, hwt, rfl, ho, hx, hb⟩ := HR.out
      have Ho : Hid (OutS wr w1.heap.size (stAt L k)) := ho
      have Hb : Hid (Below w.heap.size w wr) := hb
      have Hg : Hid (ErrT wr) := HG.out.below hb HG.out.lt
      have hK : k = len ∨ k = 20 := by omega
      cases hst : stAt L k with
      | none =>
        have Ho2 : Hid (OutS wr w1.heap.size none) := by show OutS _ _ _; rw [← hst]; exact ho
        clear ho hx hb hst HR hK
        have q0 := isEmpty_true (rfl : ByteArray.empty = ByteArray.empty)
        by_cases hl : k < len
        · have h20 : ¬ k < 20 := fun h => hlt ⟨hl, h⟩
          clear hlt
          go_wp2_with fail
          refine (string_none _ _ Ho2.out).mono ?_
          rintro r w2 ⟨rfl, rfl⟩
          go_wp2_with fail
          refine (code_any 10 _ Hg.out).mono ?_
          rintro r w3 ⟨rfl, hb3⟩
          go_wp2
          go_ret
          exact ⟨rfl, Hb.out.trans (hb3.mono Hb.out.size)⟩
        · clear hlt
          go_wp2_with fail
          refine (string_none _ _ Ho2.out).mono ?_
          rintro r w2 ⟨rfl, rfl⟩
          go_wp2_with fail
          refine (code_any 10 _ Hg.out).mono ?_
          rintro r w3 ⟨rfl, hb3⟩
          go_wp2
          go_ret
          exact ⟨rfl, Hb.out.trans (hb3.mono Hb.out.size)⟩
      | some xs =>
        have Ho2 : Hid (OutS wr w1.heap.size (some xs)) := by show OutS _ _ _; rw [← hst]; exact ho
        obtain ⟨hcat, hall⟩ := stAt_cat L k xs hst
        have hw : wt = ⟨xs.toArray⟩ := hx xs hst
        have HW : Hid (wt = ⟨xs.toArray⟩) := hw
        have HC : Hid (wt = ⟨(cat L 0 (k - 0)).toArray⟩) := by show wt = _; rw [hw, hcat]; rfl
        have HA : Hid (∀ j, j < k → ∃ p, pieceF (L j) = some p) := hall
        have HK : Hid (k = len ∨ k = 20) := hK
        clear ho hx hb hst HR hw hcat hall hK
        by_cases hl : k < len
        · have h20 : ¬ k < 20 := fun h => hlt ⟨hl, h⟩
          clear hlt
          go_wp2_with fail
          refine (string_some _ _ _ Ho2.out).mono ?_
          rintro r w2 ⟨rfl, rfl⟩
          rw [← HW.out]
          go_wp2_with fail
          refine (read_any _ _).mono ?_
          rintro r w3 ⟨rfl, rfl⟩
          go_wp2_with fail
          have HS2 : Hid (InS (w2.alloc (.cells #[.string wt, .nilIface] 58)) w2.heap.size ⟨(cat L 0 (k - 0)).toArray⟩ 0) := by show InS _ _ _ _; rw [← HC.out]; exact InS_new w2 wt
          have HB2 : Hid (Below w.heap.size w (w2.alloc (.cells #[.string wt, .nilIface] 58))) := Hb.out.alloc Hb.out.size _
          have hB2 := Hb.out.size
          go_loopw [12] (fun i wr => ∃ j : Nat, j ≤ k ∧ i = .int .i64 j ∧ Hid (InS wr w2.heap.size ⟨(cat L j (k - j)).toArray⟩ 0) ∧ Hid (Below w.heap.size w wr)) (fun i _ => 20 - (intOf i).toNat)
          case atStart => exact ⟨0, Nat.zero_le _, rfl, HS2, HB2⟩
          case round =>
            clear HS2 HB2
            obtain ⟨j, hj, rfl, Hi, Hbr⟩ := hrel
            by_cases hjk : j < k
            · obtain ⟨p, hp⟩ := HA.out j hjk
              have HIr := HI.out.below Hbr.out (Nat.le_refl _)
              obtain ⟨bb, off, rfl, hbb, hc⟩ := HIr.1.resolve_left (by omega)
              obtain ⟨d0, d1, d2, d3⟩ := hc j (by omega)
              have hcz := cutT_size (L j)
              have hcs := cutS_cases (L j)
              have hcat : cat L j (k - j) = p ++ cat L (j + 1) (k - (j + 1)) := by rw [show k - j = (k - (j + 1)) + 1 by omega, cat, hp]; rfl
              have Hi2 : Hid (InS wr w2.heap.size ⟨(p ++ cat L (j + 1) (k - (j + 1))).toArray⟩ 0) := by show InS _ _ _ _; rw [← hcat]; exact Hi.out
              have HP : Hid (pieceF (L j) = some p) := hp
              have hlti := Hi2.out.lt
              clear hc HIr hbb hcat hp
              by_cases hT : (L j).isText = true
              · rcases cutT_cases (L j) with ⟨hA, hA'⟩ | ⟨hA, hA'⟩ <;> rcases hcs with ⟨hS, hS'⟩ | ⟨hS, hS'⟩
                all_goals as_aux_lemma =>
                  have HT : Hid _ := hA'
                  have HZ : Hid _ := hS'
                  clear hA' hS'
                  obtain ⟨tp1, tp2⟩ := text_piece (L j) p hT HP.out
                  have htk := take_piece (L j) p (cat L (j + 1) (k - (j + 1))) HP.out
                  have q1 : (((⟨p.toArray⟩ : ByteArray).extract 0 (cutT (L j)).size).toList == (cutT (L j)).toList) = true := streq_yes tp2
                  have hpz : (cutT (L j)).size ≤ (⟨p.toArray⟩ : ByteArray).size := tp1
                  have HTK : Hid _ := htk
                  generalize (⟨p.toArray⟩ : ByteArray) = ps at *
                  clear tp1 tp2 htk
                  go_wp2_with fail
                  rw [← HT.out, ← HZ.out]
                  have Hi3 : Hid _ := Hi2.out.kept ((Below.refl _ _).alloc (Nat.le_refl _) (.cells #[.string (cutT (L j)), .int .i64 (L j).n, .int .i64 (cutS (L j)), .bool true] 28))
                  refine wp_region_held_drew (S := fun w' => w'.cell? ⟨wr.heap.size, 0, none⟩ = some (.string (cutT (L j))) ∧ w'.cell? ⟨wr.heap.size, 1, none⟩ = some (.int .i64 (L j).n) ∧ w'.cell? ⟨wr.heap.size, 2, none⟩ = some (.int .i64 (cutS (L j))) ∧ w'.cell? ⟨wr.heap.size, 3, none⟩ = some (.bool true)) (by kernel_rfl) (by simp) (fun hHeld => ?_)
                  change wpAnyH _ _ _ _ _ 29 (Array.replicate 29 false) _ _
                  refine wpAnyH_take (i := 0) (oi := _) (v := _) (by simp only [List.getElem?_toArray, List.getElem?_cons_zero]; rfl) (by kernel_rfl) (by kernel_rfl) (by kernel_rfl) (by exact fun _ _ _ h => h) (Or.inl ⟨by rfl, by intro w' hSw; (try dsimp only at hSw); first | (go_simp; done) | (go_simp; with_reducible rfl)⟩) hHeld ?_
                  simp only [Act.put, List.setIfInBounds_toArray, List.set_cons_zero, List.set_cons_succ]
                  refine wpAnyH_take (i := 1) (oi := _) (v := _) (by simp only [List.getElem?_toArray, List.getElem?_cons_succ, List.getElem?_cons_zero]; rfl) (by kernel_rfl) (by kernel_rfl) (by kernel_rfl) (by exact fun _ _ _ h => h) (Or.inl ⟨by rfl, by intro w' hSw; (try dsimp only at hSw); first | (go_simp; done) | (go_simp; with_reducible rfl)⟩) hHeld ?_
                  simp only [Act.put, List.setIfInBounds_toArray, List.set_cons_zero, List.set_cons_succ]
                  refine wpAnyH_take (i := 2) (oi := _) (v := _) (by simp only [List.getElem?_toArray, List.getElem?_cons_succ, List.getElem?_cons_zero]; rfl) (by kernel_rfl) (by kernel_rfl) (by kernel_rfl) (by exact fun _ _ _ h => h) (Or.inl ⟨by rfl, by intro w' hSw; (try dsimp only at hSw); first | (go_simp; done) | (go_simp; with_reducible rfl)⟩) hHeld ?_
                  simp only [Act.put, List.setIfInBounds_toArray, List.set_cons_zero, List.set_cons_succ]
                  refine wpAnyH_take (i := 3) (oi := _) (v := _) (by simp only [List.getElem?_toArray, List.getElem?_cons_succ, List.getElem?_cons_zero]; rfl) (by kernel_rfl) (by kernel_rfl) (by kernel_rfl) (by exact fun _ _ _ h => h) (Or.inl ⟨by rfl, by intro w' hSw; (try dsimp only at hSw); first | (go_simp; done) | (go_simp; with_reducible rfl)⟩) hHeld ?_
                  simp only [Act.put, List.setIfInBounds_toArray, List.set_cons_zero, List.set_cons_succ]
                  refine wpAnyH_take (i := 4) (oi := _) (v := _) (by simp only [List.getElem?_toArray, List.getElem?_cons_succ, List.getElem?_cons_zero]; rfl) (by kernel_rfl) (by kernel_rfl) (by kernel_rfl) (by exact fun _ _ _ h => h) (Or.inl ⟨by rfl, by intro w' hSw; (try dsimp only at hSw); first | (go_simp; done) | (go_simp; with_reducible rfl)⟩) hHeld ?_
                  simp only [Act.put, List.setIfInBounds_toArray, List.set_cons_zero, List.set_cons_succ]
                  refine wpAnyH_take (i := 5) (oi := _) (v := _) (by simp only [List.getElem?_toArray, List.getElem?_cons_succ, List.getElem?_cons_zero]; rfl) (by kernel_rfl) (by kernel_rfl) (by kernel_rfl) (by exact fun _ _ _ h => h) (Or.inl ⟨by rfl, by intro w' hSw; (try dsimp only at hSw); first | (go_simp; done) | (go_simp; with_reducible rfl)⟩) hHeld ?_
                  simp only [Act.put, List.setIfInBounds_toArray, List.set_cons_zero, List.set_cons_succ]
                  refine wpAnyH_take (i := 7) (oi := _) (v := _) (by simp only [List.getElem?_toArray, List.getElem?_cons_succ, List.getElem?_cons_zero]; rfl) (by kernel_rfl) (by kernel_rfl) (by kernel_rfl) (by exact fun _ _ _ h => h) (Or.inl ⟨by rfl, by intro w' hSw; (try dsimp only at hSw); first | (go_simp; done) | (go_simp; with_reducible rfl)⟩) hHeld ?_
                  simp only [Act.put, List.setIfInBounds_toArray, List.set_cons_zero, List.set_cons_succ]
                  refine wpAnyH_take (i := 8) (oi := _) (v := _) (by simp only [List.getElem?_toArray, List.getElem?_cons_succ, List.getElem?_cons_zero]; rfl) (by kernel_rfl) (by kernel_rfl) (by kernel_rfl) (by exact fun _ _ _ h => h) (Or.inl ⟨by rfl, by intro w' hSw; (try dsimp only at hSw); first | (go_simp; done) | (go_simp; with_reducible rfl)⟩) hHeld ?_
                  simp only [Act.put, List.setIfInBounds_toArray, List.set_cons_zero, List.set_cons_succ]
                  refine wpAnyH_take (i := 9) (oi := _) (v := _) (by simp only [List.getElem?_toArray, List.getElem?_cons_succ, List.getElem?_cons_zero]; rfl) (by kernel_rfl) (by kernel_rfl) (by kernel_rfl) (by exact fun _ _ _ h => h) (Or.inl ⟨by rfl, by intro w' hSw; (try dsimp only at hSw); first | (go_simp; done) | (go_simp; with_reducible rfl)⟩) hHeld ?_
                  simp only [Act.put, List.setIfInBounds_toArray, List.set_cons_zero, List.set_cons_succ]
                  refine wpAnyH_take (i := 11) (oi := _) (v := _) (by simp only [List.getElem?_toArray, List.getElem?_cons_succ, List.getElem?_cons_zero]; rfl) (by kernel_rfl) (by kernel_rfl) (by kernel_rfl) (by exact fun _ _ _ h => h) (Or.inl ⟨by rfl, by intro w' hSw; (try dsimp only at hSw); first | (go_simp; done) | (go_simp; with_reducible rfl)⟩) hHeld ?_
                  simp only [Act.put, List.setIfInBounds_toArray, List.set_cons_zero, List.set_cons_succ]
                  refine wpAnyH_take (i := 12) (oi := _) (v := _) (by simp only [List.getElem?_toArray, List.getElem?_cons_succ, List.getElem?_cons_zero]; rfl) (by kernel_rfl) (by kernel_rfl) (by kernel_rfl) (by exact fun _ _ _ h => h) (Or.inl ⟨by rfl, by intro w' hSw; (try dsimp only at hSw); first | (go_simp; done) | (go_simp; with_reducible rfl)⟩) hHeld ?_
                  simp only [Act.put, List.setIfInBounds_toArray, List.set_cons_zero, List.set_cons_succ]
                  refine wpAnyH_ready (rs := [6]) (by kernel_rfl) (by simp) ?_
                  refine AllReadyH.cons rfl (fun K hK => ?_) AllReadyH.nil
                  go_simp
                  go_wp2_with fail
                  refine (intext_any _ _ _ _ _ (by exact Hi3.out)).mono ?_
                  rw [HTK.out]
                  rintro r w4 ⟨rfl, hi4, ho4⟩
                  go_wp2_with fail
                  refine hK.out _ _ ?_ (fun hHeld => ?_)
                  · refine ⟨?_, ?_, ?_, ?_⟩ <;> (rw [World.cell?_of_block (ho4.block wr.heap.size (by omega))]; simp)
                  clear hK K
                  refine wpAnyH_take (i := 10) (oi := _) (v := _) (by simp only [List.getElem?_toArray, List.getElem?_cons_succ, List.getElem?_cons_zero]; rfl) (by kernel_rfl) (by kernel_rfl) (by kernel_rfl) (by exact fun _ _ _ h => h) (Or.inl ⟨by rfl, by intro w' hSw; (try dsimp only at hSw); first | (go_simp; done) | (go_simp; with_reducible rfl)⟩) hHeld ?_
                  simp only [Act.put, List.setIfInBounds_toArray, List.set_cons_zero, List.set_cons_succ]
                  refine wpAnyH_take (i := 13) (oi := _) (v := _) (by simp only [List.getElem?_toArray, List.getElem?_cons_succ, List.getElem?_cons_zero]; rfl) (by kernel_rfl) (by kernel_rfl) (by kernel_rfl) (by exact fun _ _ _ h => h) (Or.inl ⟨by rfl, by intro w' hSw; (try dsimp only at hSw); first | (go_simp; done) | (go_simp; with_reducible rfl)⟩) hHeld ?_
                  simp only [Act.put, List.setIfInBounds_toArray, List.set_cons_zero, List.set_cons_succ]
                  refine wpAnyH_take (i := 14) (oi := _) (v := _) (by simp only [List.getElem?_toArray, List.getElem?_cons_succ, List.getElem?_cons_zero]; rfl) (by kernel_rfl) (by kernel_rfl) (by kernel_rfl) (by exact fun _ _ _ h => h) (Or.inl ⟨by rfl, by intro w' hSw; (try dsimp only at hSw); first | (go_simp; done) | (go_simp; with_reducible rfl)⟩) hHeld ?_
                  simp only [Act.put, List.setIfInBounds_toArray, List.set_cons_zero, List.set_cons_succ]
                  refine wpAnyH_take (i := 15) (oi := _) (v := _) (by simp only [List.getElem?_toArray, List.getElem?_cons_succ, List.getElem?_cons_zero]; rfl) (by kernel_rfl) (by kernel_rfl) (by kernel_rfl) (by exact fun _ _ _ h => h) (Or.inl ⟨by rfl, by intro w' hSw; (try dsimp only at hSw); first | (go_simp; done) | (go_simp; with_reducible rfl)⟩) hHeld ?_
                  simp only [Act.put, List.setIfInBounds_toArray, List.set_cons_zero, List.set_cons_succ]
                  refine wpAnyH_take (i := 16) (oi := _) (v := _) (by simp only [List.getElem?_toArray, List.getElem?_cons_succ, List.getElem?_cons_zero]; rfl) (by kernel_rfl) (by kernel_rfl) (by kernel_rfl) (by exact fun _ _ _ h => h) (Or.inl ⟨by rfl, by intro w' hSw; (try dsimp only at hSw); first | (go_simp; done) | (go_simp; with_reducible rfl)⟩) hHeld ?_
                  simp only [Act.put, List.setIfInBounds_toArray, List.set_cons_zero, List.set_cons_succ]
                  refine wpAnyH_take (i := 17) (oi := _) (v := _) (by simp only [List.getElem?_toArray, List.getElem?_cons_succ, List.getElem?_cons_zero]; rfl) (by kernel_rfl) (by kernel_rfl) (by kernel_rfl) (by exact fun _ _ _ h => h) (Or.inl ⟨by rfl, by intro w' hSw; (try dsimp only at hSw); first | (go_simp; done) | (go_simp; with_reducible rfl)⟩) hHeld ?_
                  simp only [Act.put, List.setIfInBounds_toArray, List.set_cons_zero, List.set_cons_succ]
                  refine wpAnyH_take (i := 18) (oi := _) (v := _) (by simp only [List.getElem?_toArray, List.getElem?_cons_succ, List.getElem?_cons_zero]; rfl) (by kernel_rfl) (by kernel_rfl) (by kernel_rfl) (by exact fun _ _ _ h => h) (Or.inl ⟨by rfl, by intro w' hSw; (try dsimp only at hSw); first | (go_simp; done) | (go_simp; with_reducible rfl)⟩) hHeld ?_
                  simp only [Act.put, List.setIfInBounds_toArray, List.set_cons_zero, List.set_cons_succ]
                  refine wpAnyH_take (i := 19) (oi := _) (v := _) (by simp only [List.getElem?_toArray, List.getElem?_cons_succ, List.getElem?_cons_zero]; rfl) (by kernel_rfl) (by kernel_rfl) (by kernel_rfl) (by exact fun _ _ _ h => h) (Or.inl ⟨by rfl, by intro w' hSw; (try dsimp only at hSw); first | (go_simp; done) | (go_simp; with_reducible rfl)⟩) hHeld ?_
                  simp only [Act.put, List.setIfInBounds_toArray, List.set_cons_zero, List.set_cons_succ]
                  refine wpAnyH_take (i := 20) (oi := _) (v := undef) (by simp only [List.getElem?_toArray, List.getElem?_cons_succ, List.getElem?_cons_zero]; rfl) (by kernel_rfl) (by kernel_rfl) (by kernel_rfl) (by exact fun _ _ _ h => h) (Or.inr ⟨by rfl, rfl⟩) hHeld ?_
                  simp only [Act.put, List.setIfInBounds_toArray, List.set_cons_zero, List.set_cons_succ]
                  refine wpAnyH_take (i := 21) (oi := _) (v := undef) (by simp only [List.getElem?_toArray, List.getElem?_cons_succ, List.getElem?_cons_zero]; rfl) (by kernel_rfl) (by kernel_rfl) (by kernel_rfl) (by exact fun _ _ _ h => h) (Or.inr ⟨by rfl, rfl⟩) hHeld ?_
                  simp only [Act.put, List.setIfInBounds_toArray, List.set_cons_zero, List.set_cons_succ]
                  refine wpAnyH_take (i := 22) (oi := _) (v := undef) (by simp only [List.getElem?_toArray, List.getElem?_cons_succ, List.getElem?_cons_zero]; rfl) (by kernel_rfl) (by kernel_rfl) (by kernel_rfl) (by exact fun _ _ _ h => h) (Or.inr ⟨by rfl, rfl⟩) hHeld ?_
                  simp only [Act.put, List.setIfInBounds_toArray, List.set_cons_zero, List.set_cons_succ]
                  refine wpAnyH_take (i := 23) (oi := _) (v := undef) (by simp only [List.getElem?_toArray, List.getElem?_cons_succ, List.getElem?_cons_zero]; rfl) (by kernel_rfl) (by kernel_rfl) (by kernel_rfl) (by exact fun _ _ _ h => h) (Or.inr ⟨by rfl, rfl⟩) hHeld ?_
                  simp only [Act.put, List.setIfInBounds_toArray, List.set_cons_zero, List.set_cons_succ]
                  refine wpAnyH_take (i := 24) (oi := _) (v := undef) (by simp only [List.getElem?_toArray, List.getElem?_cons_succ, List.getElem?_cons_zero]; rfl) (by kernel_rfl) (by kernel_rfl) (by kernel_rfl) (by exact fun _ _ _ h => h) (Or.inr ⟨by rfl, rfl⟩) hHeld ?_
                  simp only [Act.put, List.setIfInBounds_toArray, List.set_cons_zero, List.set_cons_succ]
                  refine wpAnyH_take (i := 25) (oi := _) (v := undef) (by simp only [List.getElem?_toArray, List.getElem?_cons_succ, List.getElem?_cons_zero]; rfl) (by kernel_rfl) (by kernel_rfl) (by kernel_rfl) (by exact fun _ _ _ h => h) (Or.inr ⟨by rfl, rfl⟩) hHeld ?_
                  simp only [Act.put, List.setIfInBounds_toArray, List.set_cons_zero, List.set_cons_succ]
                  refine wpAnyH_take (i := 26) (oi := _) (v := undef) (by simp only [List.getElem?_toArray, List.getElem?_cons_succ, List.getElem?_cons_zero]; rfl) (by kernel_rfl) (by kernel_rfl) (by kernel_rfl) (by exact fun _ _ _ h => h) (Or.inr ⟨by rfl, rfl⟩) hHeld ?_
                  simp only [Act.put, List.setIfInBounds_toArray, List.set_cons_zero, List.set_cons_succ]
                  refine wpAnyH_take (i := 27) (oi := _) (v := _) (by simp only [List.getElem?_toArray, List.getElem?_cons_succ, List.getElem?_cons_zero]; rfl) (by kernel_rfl) (by kernel_rfl) (by kernel_rfl) (by exact fun _ _ _ h => h) (Or.inl ⟨by rfl, by intro w' hSw; (try dsimp only at hSw); first | (go_simp; done) | (go_simp; with_reducible rfl)⟩) hHeld ?_
                  simp only [Act.put, List.setIfInBounds_toArray, List.set_cons_zero, List.set_cons_succ]
                  refine wpAnyH_take (i := 28) (oi := _) (v := _) (by simp only [List.getElem?_toArray, List.getElem?_cons_succ, List.getElem?_cons_zero]; rfl) (by kernel_rfl) (by kernel_rfl) (by kernel_rfl) (by exact fun _ _ _ h => h) (Or.inl ⟨by rfl, by intro w' hSw; (try dsimp only at hSw); first | (go_simp; done) | (go_simp; with_reducible rfl)⟩) hHeld ?_
                  simp only [Act.put, List.setIfInBounds_toArray, List.set_cons_zero, List.set_cons_succ]
                  refine wpAnyH_done (by kernel_rfl) ?_ _
                  have Hi5 : Hid (InS w4 w2.heap.size ⟨(cat L (j + 1) (k - (j + 1))).toArray⟩ 0) := hi4
                  have Hb5 : Hid (Below w.heap.size w w4) := ((Hbr.out.alloc Hbr.out.size _).drew).trans (ho4.below hB2)
                  clear hi4 ho4 hHeld
                  go_wp2
                  go_roundw
                  case rel => exact ⟨j + 1, by omega, by go_num, Hi5, Hb5⟩
                  case measure => simp [intOf]; omega
              · have hT' : (L j).isText = false := Bool.eq_false_iff.2 hT
                clear hT
                rcases cutT_cases (L j) with ⟨hA, hA'⟩ | ⟨hA, hA'⟩ <;> rcases hcs with ⟨hS, hS'⟩ | ⟨hS, hS'⟩
                all_goals as_aux_lemma =>
                  have HT : Hid _ := hA'
                  have HZ : Hid _ := hS'
                  clear hA' hS'
                  have HNK : Hid _ := num_piece (L j) p (cat L (j + 1) (k - (j + 1))) hT' HP.out
                  go_wp2_with fail
                  rw [← HT.out, ← HZ.out]
                  have Hi3 : Hid _ := Hi2.out.kept ((Below.refl _ _).alloc (Nat.le_refl _) (.cells #[.string (cutT (L j)), .int .i64 (L j).n, .int .i64 (cutS (L j)), .bool false] 28))
                  refine wp_region_held_drew (S := fun w' => w'.cell? ⟨wr.heap.size, 0, none⟩ = some (.string (cutT (L j))) ∧ w'.cell? ⟨wr.heap.size, 1, none⟩ = some (.int .i64 (L j).n) ∧ w'.cell? ⟨wr.heap.size, 2, none⟩ = some (.int .i64 (cutS (L j))) ∧ w'.cell? ⟨wr.heap.size, 3, none⟩ = some (.bool false)) (by kernel_rfl) (by simp) (fun hHeld => ?_)
                  change wpAnyH _ _ _ _ _ 29 (Array.replicate 29 false) _ _
                  refine wpAnyH_take (i := 0) (oi := _) (v := _) (by simp only [List.getElem?_toArray, List.getElem?_cons_zero]; rfl) (by kernel_rfl) (by kernel_rfl) (by kernel_rfl) (by exact fun _ _ _ h => h) (Or.inl ⟨by rfl, by intro w' hSw; (try dsimp only at hSw); first | (go_simp; done) | (go_simp; with_reducible rfl)⟩) hHeld ?_
                  simp only [Act.put, List.setIfInBounds_toArray, List.set_cons_zero, List.set_cons_succ]
                  refine wpAnyH_take (i := 1) (oi := _) (v := _) (by simp only [List.getElem?_toArray, List.getElem?_cons_succ, List.getElem?_cons_zero]; rfl) (by kernel_rfl) (by kernel_rfl) (by kernel_rfl) (by exact fun _ _ _ h => h) (Or.inl ⟨by rfl, by intro w' hSw; (try dsimp only at hSw); first | (go_simp; done) | (go_simp; with_reducible rfl)⟩) hHeld ?_
                  simp only [Act.put, List.setIfInBounds_toArray, List.set_cons_zero, List.set_cons_succ]
                  refine wpAnyH_take (i := 2) (oi := _) (v := _) (by simp only [List.getElem?_toArray, List.getElem?_cons_succ, List.getElem?_cons_zero]; rfl) (by kernel_rfl) (by kernel_rfl) (by kernel_rfl) (by exact fun _ _ _ h => h) (Or.inl ⟨by rfl, by intro w' hSw; (try dsimp only at hSw); first | (go_simp; done) | (go_simp; with_reducible rfl)⟩) hHeld ?_
                  simp only [Act.put, List.setIfInBounds_toArray, List.set_cons_zero, List.set_cons_succ]
                  refine wpAnyH_take (i := 3) (oi := _) (v := undef) (by simp only [List.getElem?_toArray, List.getElem?_cons_succ, List.getElem?_cons_zero]; rfl) (by kernel_rfl) (by kernel_rfl) (by kernel_rfl) (by exact fun _ _ _ h => h) (Or.inr ⟨by rfl, rfl⟩) hHeld ?_
                  simp only [Act.put, List.setIfInBounds_toArray, List.set_cons_zero, List.set_cons_succ]
                  refine wpAnyH_take (i := 4) (oi := _) (v := undef) (by simp only [List.getElem?_toArray, List.getElem?_cons_succ, List.getElem?_cons_zero]; rfl) (by kernel_rfl) (by kernel_rfl) (by kernel_rfl) (by exact fun _ _ _ h => h) (Or.inr ⟨by rfl, rfl⟩) hHeld ?_
                  simp only [Act.put, List.setIfInBounds_toArray, List.set_cons_zero, List.set_cons_succ]
                  refine wpAnyH_take (i := 5) (oi := _) (v := undef) (by simp only [List.getElem?_toArray, List.getElem?_cons_succ, List.getElem?_cons_zero]; rfl) (by kernel_rfl) (by kernel_rfl) (by kernel_rfl) (by exact fun _ _ _ h => h) (Or.inr ⟨by rfl, rfl⟩) hHeld ?_
                  simp only [Act.put, List.setIfInBounds_toArray, List.set_cons_zero, List.set_cons_succ]
                  refine wpAnyH_take (i := 6) (oi := _) (v := undef) (by simp only [List.getElem?_toArray, List.getElem?_cons_succ, List.getElem?_cons_zero]; rfl) (by kernel_rfl) (by kernel_rfl) (by kernel_rfl) (by exact fun _ _ _ h => h) (Or.inr ⟨by rfl, rfl⟩) hHeld ?_
                  simp only [Act.put, List.setIfInBounds_toArray, List.set_cons_zero, List.set_cons_succ]
                  refine wpAnyH_take (i := 7) (oi := _) (v := undef) (by simp only [List.getElem?_toArray, List.getElem?_cons_succ, List.getElem?_cons_zero]; rfl) (by kernel_rfl) (by kernel_rfl) (by kernel_rfl) (by exact fun _ _ _ h => h) (Or.inr ⟨by rfl, rfl⟩) hHeld ?_
                  simp only [Act.put, List.setIfInBounds_toArray, List.set_cons_zero, List.set_cons_succ]
                  refine wpAnyH_take (i := 8) (oi := _) (v := undef) (by simp only [List.getElem?_toArray, List.getElem?_cons_succ, List.getElem?_cons_zero]; rfl) (by kernel_rfl) (by kernel_rfl) (by kernel_rfl) (by exact fun _ _ _ h => h) (Or.inr ⟨by rfl, rfl⟩) hHeld ?_
                  simp only [Act.put, List.setIfInBounds_toArray, List.set_cons_zero, List.set_cons_succ]
                  refine wpAnyH_take (i := 9) (oi := _) (v := undef) (by simp only [List.getElem?_toArray, List.getElem?_cons_succ, List.getElem?_cons_zero]; rfl) (by kernel_rfl) (by kernel_rfl) (by kernel_rfl) (by exact fun _ _ _ h => h) (Or.inr ⟨by rfl, rfl⟩) hHeld ?_
                  simp only [Act.put, List.setIfInBounds_toArray, List.set_cons_zero, List.set_cons_succ]
                  refine wpAnyH_take (i := 10) (oi := _) (v := undef) (by simp only [List.getElem?_toArray, List.getElem?_cons_succ, List.getElem?_cons_zero]; rfl) (by kernel_rfl) (by kernel_rfl) (by kernel_rfl) (by exact fun _ _ _ h => h) (Or.inr ⟨by rfl, rfl⟩) hHeld ?_
                  simp only [Act.put, List.setIfInBounds_toArray, List.set_cons_zero, List.set_cons_succ]
                  refine wpAnyH_take (i := 11) (oi := _) (v := undef) (by simp only [List.getElem?_toArray, List.getElem?_cons_succ, List.getElem?_cons_zero]; rfl) (by kernel_rfl) (by kernel_rfl) (by kernel_rfl) (by exact fun _ _ _ h => h) (Or.inr ⟨by rfl, rfl⟩) hHeld ?_
                  simp only [Act.put, List.setIfInBounds_toArray, List.set_cons_zero, List.set_cons_succ]
                  refine wpAnyH_take (i := 12) (oi := _) (v := undef) (by simp only [List.getElem?_toArray, List.getElem?_cons_succ, List.getElem?_cons_zero]; rfl) (by kernel_rfl) (by kernel_rfl) (by kernel_rfl) (by exact fun _ _ _ h => h) (Or.inr ⟨by rfl, rfl⟩) hHeld ?_
                  simp only [Act.put, List.setIfInBounds_toArray, List.set_cons_zero, List.set_cons_succ]
                  refine wpAnyH_take (i := 13) (oi := _) (v := undef) (by simp only [List.getElem?_toArray, List.getElem?_cons_succ, List.getElem?_cons_zero]; rfl) (by kernel_rfl) (by kernel_rfl) (by kernel_rfl) (by exact fun _ _ _ h => h) (Or.inr ⟨by rfl, rfl⟩) hHeld ?_
                  simp only [Act.put, List.setIfInBounds_toArray, List.set_cons_zero, List.set_cons_succ]
                  refine wpAnyH_take (i := 14) (oi := _) (v := _) (by simp only [List.getElem?_toArray, List.getElem?_cons_succ, List.getElem?_cons_zero]; rfl) (by kernel_rfl) (by kernel_rfl) (by kernel_rfl) (by exact fun _ _ _ h => h) (Or.inl ⟨by rfl, by intro w' hSw; (try dsimp only at hSw); first | (go_simp; done) | (go_simp; with_reducible rfl)⟩) hHeld ?_
                  simp only [Act.put, List.setIfInBounds_toArray, List.set_cons_zero, List.set_cons_succ]
                  refine wpAnyH_take (i := 15) (oi := _) (v := _) (by simp only [List.getElem?_toArray, List.getElem?_cons_succ, List.getElem?_cons_zero]; rfl) (by kernel_rfl) (by kernel_rfl) (by kernel_rfl) (by exact fun _ _ _ h => h) (Or.inl ⟨by rfl, by intro w' hSw; (try dsimp only at hSw); first | (go_simp; done) | (go_simp; with_reducible rfl)⟩) hHeld ?_
                  simp only [Act.put, List.setIfInBounds_toArray, List.set_cons_zero, List.set_cons_succ]
                  refine wpAnyH_take (i := 16) (oi := _) (v := _) (by simp only [List.getElem?_toArray, List.getElem?_cons_succ, List.getElem?_cons_zero]; rfl) (by kernel_rfl) (by kernel_rfl) (by kernel_rfl) (by exact fun _ _ _ h => h) (Or.inl ⟨by rfl, by intro w' hSw; (try dsimp only at hSw); first | (go_simp; done) | (go_simp; with_reducible rfl)⟩) hHeld ?_
                  simp only [Act.put, List.setIfInBounds_toArray, List.set_cons_zero, List.set_cons_succ]
                  refine wpAnyH_take (i := 17) (oi := _) (v := _) (by simp only [List.getElem?_toArray, List.getElem?_cons_succ, List.getElem?_cons_zero]; rfl) (by kernel_rfl) (by kernel_rfl) (by kernel_rfl) (by exact fun _ _ _ h => h) (Or.inl ⟨by rfl, by intro w' hSw; (try dsimp only at hSw); first | (go_simp; done) | (go_simp; with_reducible rfl)⟩) hHeld ?_
                  simp only [Act.put, List.setIfInBounds_toArray, List.set_cons_zero, List.set_cons_succ]
                  refine wpAnyH_take (i := 18) (oi := _) (v := _) (by simp only [List.getElem?_toArray, List.getElem?_cons_succ, List.getElem?_cons_zero]; rfl) (by kernel_rfl) (by kernel_rfl) (by kernel_rfl) (by exact fun _ _ _ h => h) (Or.inl ⟨by rfl, by intro w' hSw; (try dsimp only at hSw); first | (go_simp; done) | (go_simp; with_reducible rfl)⟩) hHeld ?_
                  simp only [Act.put, List.setIfInBounds_toArray, List.set_cons_zero, List.set_cons_succ]
                  refine wpAnyH_take (i := 19) (oi := _) (v := _) (by simp only [List.getElem?_toArray, List.getElem?_cons_succ, List.getElem?_cons_zero]; rfl) (by kernel_rfl) (by kernel_rfl) (by kernel_rfl) (by exact fun _ _ _ h => h) (Or.inl ⟨by rfl, by intro w' hSw; (try dsimp only at hSw); first | (go_simp; done) | (go_simp; with_reducible rfl)⟩) hHeld ?_
                  simp only [Act.put, List.setIfInBounds_toArray, List.set_cons_zero, List.set_cons_succ]
                  refine wpAnyH_take (i := 20) (oi := _) (v := _) (by simp only [List.getElem?_toArray, List.getElem?_cons_succ, List.getElem?_cons_zero]; rfl) (by kernel_rfl) (by kernel_rfl) (by kernel_rfl) (by exact fun _ _ _ h => h) (Or.inl ⟨by rfl, by intro w' hSw; (try dsimp only at hSw); first | (go_simp; done) | (go_simp; with_reducible rfl)⟩) hHeld ?_
                  simp only [Act.put, List.setIfInBounds_toArray, List.set_cons_zero, List.set_cons_succ]
                  refine wpAnyH_take (i := 21) (oi := _) (v := _) (by simp only [List.getElem?_toArray, List.getElem?_cons_succ, List.getElem?_cons_zero]; rfl) (by kernel_rfl) (by kernel_rfl) (by kernel_rfl) (by exact fun _ _ _ h => h) (Or.inl ⟨by rfl, by intro w' hSw; (try dsimp only at hSw); first | (go_simp; done) | (go_simp; with_reducible rfl)⟩) hHeld ?_
                  simp only [Act.put, List.setIfInBounds_toArray, List.set_cons_zero, List.set_cons_succ]
                  refine wpAnyH_take (i := 22) (oi := _) (v := _) (by simp only [List.getElem?_toArray, List.getElem?_cons_succ, List.getElem?_cons_zero]; rfl) (by kernel_rfl) (by kernel_rfl) (by kernel_rfl) (by exact fun _ _ _ h => h) (Or.inl ⟨by rfl, by intro w' hSw; (try dsimp only at hSw); first | (go_simp; done) | (go_simp; with_reducible rfl)⟩) hHeld ?_
                  simp only [Act.put, List.setIfInBounds_toArray, List.set_cons_zero, List.set_cons_succ]
                  refine wpAnyH_take (i := 24) (oi := _) (v := _) (by simp only [List.getElem?_toArray, List.getElem?_cons_succ, List.getElem?_cons_zero]; rfl) (by kernel_rfl) (by kernel_rfl) (by kernel_rfl) (by exact fun _ _ _ h => h) (Or.inl ⟨by rfl, by intro w' hSw; (try dsimp only at hSw); first | (go_simp; done) | (go_simp; with_reducible rfl)⟩) hHeld ?_
                  simp only [Act.put, List.setIfInBounds_toArray, List.set_cons_zero, List.set_cons_succ]
                  refine wpAnyH_take (i := 25) (oi := _) (v := _) (by simp only [List.getElem?_toArray, List.getElem?_cons_succ, List.getElem?_cons_zero]; rfl) (by kernel_rfl) (by kernel_rfl) (by kernel_rfl) (by exact fun _ _ _ h => h) (Or.inl ⟨by rfl, by intro w' hSw; (try dsimp only at hSw); first | (go_simp; done) | (go_simp; with_reducible rfl)⟩) hHeld ?_
                  simp only [Act.put, List.setIfInBounds_toArray, List.set_cons_zero, List.set_cons_succ]
                  refine wpAnyH_ready (rs := [23]) (by kernel_rfl) (by simp) ?_
                  refine AllReadyH.cons rfl (fun K hK => ?_) AllReadyH.nil
                  go_simp
                  go_wp2_with fail
                  refine (innum_any _ _ _ _ _ (by exact Hi3.out)).mono ?_
                  rw [HNK.out]
                  rintro r w4 ⟨rfl, hi4, ho4⟩
                  go_wp2_with fail
                  refine hK.out _ _ ?_ (fun hHeld => ?_)
                  · refine ⟨?_, ?_, ?_, ?_⟩ <;> (rw [World.cell?_of_block (ho4.block wr.heap.size (by omega))]; simp)
                  clear hK K
                  refine wpAnyH_take (i := 26) (oi := _) (v := _) (by simp only [List.getElem?_toArray, List.getElem?_cons_succ, List.getElem?_cons_zero]; rfl) (by kernel_rfl) (by kernel_rfl) (by kernel_rfl) (by exact fun _ _ _ h => h) (Or.inl ⟨by rfl, by intro w' hSw; (try dsimp only at hSw); first | (go_simp; done) | (go_simp; with_reducible rfl)⟩) hHeld ?_
                  simp only [Act.put, List.setIfInBounds_toArray, List.set_cons_zero, List.set_cons_succ]
                  refine wpAnyH_take (i := 27) (oi := _) (v := _) (by simp only [List.getElem?_toArray, List.getElem?_cons_succ, List.getElem?_cons_zero]; rfl) (by kernel_rfl) (by kernel_rfl) (by kernel_rfl) (by exact fun _ _ _ h => h) (Or.inl ⟨by rfl, by intro w' hSw; (try dsimp only at hSw); first | (go_simp; done) | (go_simp; with_reducible rfl)⟩) hHeld ?_
                  simp only [Act.put, List.setIfInBounds_toArray, List.set_cons_zero, List.set_cons_succ]
                  refine wpAnyH_take (i := 28) (oi := _) (v := _) (by simp only [List.getElem?_toArray, List.getElem?_cons_succ, List.getElem?_cons_zero]; rfl) (by kernel_rfl) (by kernel_rfl) (by kernel_rfl) (by exact fun _ _ _ h => h) (Or.inl ⟨by rfl, by intro w' hSw; (try dsimp only at hSw); first | (go_simp; done) | (go_simp; with_reducible rfl)⟩) hHeld ?_
                  simp only [Act.put, List.setIfInBounds_toArray, List.set_cons_zero, List.set_cons_succ]
                  refine wpAnyH_done (by kernel_rfl) ?_ _
                  have Hi5 : Hid (InS w4 w2.heap.size ⟨(cat L (j + 1) (k - (j + 1))).toArray⟩ 0) := hi4
                  have Hb5 : Hid (Below w.heap.size w w4) := ((Hbr.out.alloc Hbr.out.size _).drew).trans (ho4.below hB2)
                  clear hi4 ho4 hHeld
                  go_wp2
                  go_roundw
                  case rel => exact ⟨j + 1, by omega, by go_num, Hi5, Hb5⟩
                  case measure => simp [intOf]; omega
            · obtain rfl : j = k := by omega
              have Hi2 : Hid (InS wr w2.heap.size ByteArray.empty 0) := by
                have e : cat L j (j - j) = [] := by rw [Nat.sub_self]; rfl
                have := Hi.out
                rw [e] at this
                exact this
              go_wp2_with fail
              refine (end_any _ _ _ _ Hi2.out).mono ?_
              rintro r w5 ⟨rfl, rfl⟩
              rw [sp5]
              go_wp2
              go_ret
              exact ⟨rfl, Hbr.out⟩
        · clear hlt
          go_wp2_with fail
          refine (string_some _ _ _ Ho2.out).mono ?_
          rintro r w2 ⟨rfl, rfl⟩
          rw [← HW.out]
          go_wp2_with fail
          refine (read_any _ _).mono ?_
          rintro r w3 ⟨rfl, rfl⟩
          go_wp2_with fail
          have HS2 : Hid (InS (w2.alloc (.cells #[.string wt, .nilIface] 58)) w2.heap.size ⟨(cat L 0 (k - 0)).toArray⟩ 0) := by show InS _ _ _ _; rw [← HC.out]; exact InS_new w2 wt
          have HB2 : Hid (Below w.heap.size w (w2.alloc (.cells #[.string wt, .nilIface] 58))) := Hb.out.alloc Hb.out.size _
          have hB2 := Hb.out.size
          go_loopw [12] (fun i wr => ∃ j : Nat, j ≤ k ∧ i = .int .i64 j ∧ Hid (InS wr w2.heap.size ⟨(cat L j (k - j)).toArray⟩ 0) ∧ Hid (Below w.heap.size w wr)) (fun i _ => 20 - (intOf i).toNat)
          case atStart => exact ⟨0, Nat.zero_le _, rfl, HS2, HB2⟩
          case round =>
            clear HS2 HB2
            obtain ⟨j, hj, rfl, Hi, Hbr⟩ := hrel
            by_cases hjk : j < k
            · obtain ⟨p, hp⟩ := HA.out j hjk
              have HIr := HI.out.below Hbr.out (Nat.le_refl _)
              obtain ⟨bb, off, rfl, hbb, hc⟩ := HIr.1.resolve_left (by omega)
              obtain ⟨d0, d1, d2, d3⟩ := hc j (by omega)
              have hcz := cutT_size (L j)
              have hcs := cutS_cases (L j)
              have hcat : cat L j (k - j) = p ++ cat L (j + 1) (k - (j + 1)) := by rw [show k - j = (k - (j + 1)) + 1 by omega, cat, hp]; rfl
              have Hi2 : Hid (InS wr w2.heap.size ⟨(p ++ cat L (j + 1) (k - (j + 1))).toArray⟩ 0) := by show InS _ _ _ _; rw [← hcat]; exact Hi.out
              have HP : Hid (pieceF (L j) = some p) := hp
              have hlti := Hi2.out.lt
              clear hc HIr hbb hcat hp
              by_cases hT : (L j).isText = true
              · rcases cutT_cases (L j) with ⟨hA, hA'⟩ | ⟨hA, hA'⟩ <;> rcases hcs with ⟨hS, hS'⟩ | ⟨hS, hS'⟩
                all_goals as_aux_lemma =>
                  have HT : Hid _ := hA'
                  have HZ : Hid _ := hS'
                  clear hA' hS'
                  obtain ⟨tp1, tp2⟩ := text_piece (L j) p hT HP.out
                  have htk := take_piece (L j) p (cat L (j + 1) (k - (j + 1))) HP.out
                  have q1 : (((⟨p.toArray⟩ : ByteArray).extract 0 (cutT (L j)).size).toList == (cutT (L j)).toList) = true := streq_yes tp2
                  have hpz : (cutT (L j)).size ≤ (⟨p.toArray⟩ : ByteArray).size := tp1
                  have HTK : Hid _ := htk
                  generalize (⟨p.toArray⟩ : ByteArray) = ps at *
                  clear tp1 tp2 htk
                  go_wp2_with fail
                  rw [← HT.out, ← HZ.out]
                  have Hi3 : Hid _ := Hi2.out.kept ((Below.refl _ _).alloc (Nat.le_refl _) (.cells #[.string (cutT (L j)), .int .i64 (L j).n, .int .i64 (cutS (L j)), .bool true] 28))
                  refine wp_region_held_drew (S := fun w' => w'.cell? ⟨wr.heap.size, 0, none⟩ = some (.string (cutT (L j))) ∧ w'.cell? ⟨wr.heap.size, 1, none⟩ = some (.int .i64 (L j).n) ∧ w'.cell? ⟨wr.heap.size, 2, none⟩ = some (.int .i64 (cutS (L j))) ∧ w'.cell? ⟨wr.heap.size, 3, none⟩ = some (.bool true)) (by kernel_rfl) (by simp) (fun hHeld => ?_)
                  change wpAnyH _ _ _ _ _ 29 (Array.replicate 29 false) _ _
                  refine wpAnyH_take (i := 0) (oi := _) (v := _) (by simp only [List.getElem?_toArray, List.getElem?_cons_zero]; rfl) (by kernel_rfl) (by kernel_rfl) (by kernel_rfl) (by exact fun _ _ _ h => h) (Or.inl ⟨by rfl, by intro w' hSw; (try dsimp only at hSw); first | (go_simp; done) | (go_simp; with_reducible rfl)⟩) hHeld ?_
                  simp only [Act.put, List.setIfInBounds_toArray, List.set_cons_zero, List.set_cons_succ]
                  refine wpAnyH_take (i := 1) (oi := _) (v := _) (by simp only [List.getElem?_toArray, List.getElem?_cons_succ, List.getElem?_cons_zero]; rfl) (by kernel_rfl) (by kernel_rfl) (by kernel_rfl) (by exact fun _ _ _ h => h) (Or.inl ⟨by rfl, by intro w' hSw; (try dsimp only at hSw); first | (go_simp; done) | (go_simp; with_reducible rfl)⟩) hHeld ?_
                  simp only [Act.put, List.setIfInBounds_toArray, List.set_cons_zero, List.set_cons_succ]
                  refine wpAnyH_take (i := 2) (oi := _) (v := _) (by simp only [List.getElem?_toArray, List.getElem?_cons_succ, List.getElem?_cons_zero]; rfl) (by kernel_rfl) (by kernel_rfl) (by kernel_rfl) (by exact fun _ _ _ h => h) (Or.inl ⟨by rfl, by intro w' hSw; (try dsimp only at hSw); first | (go_simp; done) | (go_simp; with_reducible rfl)⟩) hHeld ?_
                  simp only [Act.put, List.setIfInBounds_toArray, List.set_cons_zero, List.set_cons_succ]
                  refine wpAnyH_take (i := 3) (oi := _) (v := _) (by simp only [List.getElem?_toArray, List.getElem?_cons_succ, List.getElem?_cons_zero]; rfl) (by kernel_rfl) (by kernel_rfl) (by kernel_rfl) (by exact fun _ _ _ h => h) (Or.inl ⟨by rfl, by intro w' hSw; (try dsimp only at hSw); first | (go_simp; done) | (go_simp; with_reducible rfl)⟩) hHeld ?_
                  simp only [Act.put, List.setIfInBounds_toArray, List.set_cons_zero, List.set_cons_succ]
                  refine wpAnyH_take (i := 4) (oi := _) (v := _) (by simp only [List.getElem?_toArray, List.getElem?_cons_succ, List.getElem?_cons_zero]; rfl) (by kernel_rfl) (by kernel_rfl) (by kernel_rfl) (by exact fun _ _ _ h => h) (Or.inl ⟨by rfl, by intro w' hSw; (try dsimp only at hSw); first | (go_simp; done) | (go_simp; with_reducible rfl)⟩) hHeld ?_
                  simp only [Act.put, List.setIfInBounds_toArray, List.set_cons_zero, List.set_cons_succ]
                  refine wpAnyH_take (i := 5) (oi := _) (v := _) (by simp only [List.getElem?_toArray, List.getElem?_cons_succ, List.getElem?_cons_zero]; rfl) (by kernel_rfl) (by kernel_rfl) (by kernel_rfl) (by exact fun _ _ _ h => h) (Or.inl ⟨by rfl, by intro w' hSw; (try dsimp only at hSw); first | (go_simp; done) | (go_simp; with_reducible rfl)⟩) hHeld ?_
                  simp only [Act.put, List.setIfInBounds_toArray, List.set_cons_zero, List.set_cons_succ]
                  refine wpAnyH_take (i := 7) (oi := _) (v := _) (by simp only [List.getElem?_toArray, List.getElem?_cons_succ, List.getElem?_cons_zero]; rfl) (by kernel_rfl) (by kernel_rfl) (by kernel_rfl) (by exact fun _ _ _ h => h) (Or.inl ⟨by rfl, by intro w' hSw; (try dsimp only at hSw); first | (go_simp; done) | (go_simp; with_reducible rfl)⟩) hHeld ?_
                  simp only [Act.put, List.setIfInBounds_toArray, List.set_cons_zero, List.set_cons_succ]
                  refine wpAnyH_take (i := 8) (oi := _) (v := _) (by simp only [List.getElem?_toArray, List.getElem?_cons_succ, List.getElem?_cons_zero]; rfl) (by kernel_rfl) (by kernel_rfl) (by kernel_rfl) (by exact fun _ _ _ h => h) (Or.inl ⟨by rfl, by intro w' hSw; (try dsimp only at hSw); first | (go_simp; done) | (go_simp; with_reducible rfl)⟩) hHeld ?_
                  simp only [Act.put, List.setIfInBounds_toArray, List.set_cons_zero, List.set_cons_succ]
                  refine wpAnyH_take (i := 9) (oi := _) (v := _) (by simp only [List.getElem?_toArray, List.getElem?_cons_succ, List.getElem?_cons_zero]; rfl) (by kernel_rfl) (by kernel_rfl) (by kernel_rfl) (by exact fun _ _ _ h => h) (Or.inl ⟨by rfl, by intro w' hSw; (try dsimp only at hSw); first | (go_simp; done) | (go_simp; with_reducible rfl)⟩) hHeld ?_
                  simp only [Act.put, List.setIfInBounds_toArray, List.set_cons_zero, List.set_cons_succ]
                  refine wpAnyH_take (i := 11) (oi := _) (v := _) (by simp only [List.getElem?_toArray, List.getElem?_cons_succ, List.getElem?_cons_zero]; rfl) (by kernel_rfl) (by kernel_rfl) (by kernel_rfl) (by exact fun _ _ _ h => h) (Or.inl ⟨by rfl, by intro w' hSw; (try dsimp only at hSw); first | (go_simp; done) | (go_simp; with_reducible rfl)⟩) hHeld ?_
                  simp only [Act.put, List.setIfInBounds_toArray, List.set_cons_zero, List.set_cons_succ]
                  refine wpAnyH_take (i := 12) (oi := _) (v := _) (by simp only [List.getElem?_toArray, List.getElem?_cons_succ, List.getElem?_cons_zero]; rfl) (by kernel_rfl) (by kernel_rfl) (by kernel_rfl) (by exact fun _ _ _ h => h) (Or.inl ⟨by rfl, by intro w' hSw; (try dsimp only at hSw); first | (go_simp; done) | (go_simp; with_reducible rfl)⟩) hHeld ?_
                  simp only [Act.put, List.setIfInBounds_toArray, List.set_cons_zero, List.set_cons_succ]
                  refine wpAnyH_ready (rs := [6]) (by kernel_rfl) (by simp) ?_
                  refine AllReadyH.cons rfl (fun K hK => ?_) AllReadyH.nil
                  go_simp
                  go_wp2_with fail
                  refine (intext_any _ _ _ _ _ (by exact Hi3.out)).mono ?_
                  rw [HTK.out]
                  rintro r w4 ⟨rfl, hi4, ho4⟩
                  go_wp2_with fail
                  refine hK.out _ _ ?_ (fun hHeld => ?_)
                  · refine ⟨?_, ?_, ?_, ?_⟩ <;> (rw [World.cell?_of_block (ho4.block wr.heap.size (by omega))]; simp)
                  clear hK K
                  refine wpAnyH_take (i := 10) (oi := _) (v := _) (by simp only [List.getElem?_toArray, List.getElem?_cons_succ, List.getElem?_cons_zero]; rfl) (by kernel_rfl) (by kernel_rfl) (by kernel_rfl) (by exact fun _ _ _ h => h) (Or.inl ⟨by rfl, by intro w' hSw; (try dsimp only at hSw); first | (go_simp; done) | (go_simp; with_reducible rfl)⟩) hHeld ?_
                  simp only [Act.put, List.setIfInBounds_toArray, List.set_cons_zero, List.set_cons_succ]
                  refine wpAnyH_take (i := 13) (oi := _) (v := _) (by simp only [List.getElem?_toArray, List.getElem?_cons_succ, List.getElem?_cons_zero]; rfl) (by kernel_rfl) (by kernel_rfl) (by kernel_rfl) (by exact fun _ _ _ h => h) (Or.inl ⟨by rfl, by intro w' hSw; (try dsimp only at hSw); first | (go_simp; done) | (go_simp; with_reducible rfl)⟩) hHeld ?_
                  simp only [Act.put, List.setIfInBounds_toArray, List.set_cons_zero, List.set_cons_succ]
                  refine wpAnyH_take (i := 14) (oi := _) (v := _) (by simp only [List.getElem?_toArray, List.getElem?_cons_succ, List.getElem?_cons_zero]; rfl) (by kernel_rfl) (by kernel_rfl) (by kernel_rfl) (by exact fun _ _ _ h => h) (Or.inl ⟨by rfl, by intro w' hSw; (try dsimp only at hSw); first | (go_simp; done) | (go_simp; with_reducible rfl)⟩) hHeld ?_
                  simp only [Act.put, List.setIfInBounds_toArray, List.set_cons_zero, List.set_cons_succ]
                  refine wpAnyH_take (i := 15) (oi := _) (v := _) (by simp only [List.getElem?_toArray, List.getElem?_cons_succ, List.getElem?_cons_zero]; rfl) (by kernel_rfl) (by kernel_rfl) (by kernel_rfl) (by exact fun _ _ _ h => h) (Or.inl ⟨by rfl, by intro w' hSw; (try dsimp only at hSw); first | (go_simp; done) | (go_simp; with_reducible rfl)⟩) hHeld ?_
                  simp only [Act.put, List.setIfInBounds_toArray, List.set_cons_zero, List.set_cons_succ]
                  refine wpAnyH_take (i := 16) (oi := _) (v := _) (by simp only [List.getElem?_toArray, List.getElem?_cons_succ, List.getElem?_cons_zero]; rfl) (by kernel_rfl) (by kernel_rfl) (by kernel_rfl) (by exact fun _ _ _ h => h) (Or.inl ⟨by rfl, by intro w' hSw; (try dsimp only at hSw); first | (go_simp; done) | (go_simp; with_reducible rfl)⟩) hHeld ?_
                  simp only [Act.put, List.setIfInBounds_toArray, List.set_cons_zero, List.set_cons_succ]
                  refine wpAnyH_take (i := 17) (oi := _) (v := _) (by simp only [List.getElem?_toArray, List.getElem?_cons_succ, List.getElem?_cons_zero]; rfl) (by kernel_rfl) (by kernel_rfl) (by kernel_rfl) (by exact fun _ _ _ h => h) (Or.inl ⟨by rfl, by intro w' hSw; (try dsimp only at hSw); first | (go_simp; done) | (go_simp; with_reducible rfl)⟩) hHeld ?_
                  simp only [Act.put, List.setIfInBounds_toArray, List.set_cons_zero, List.set_cons_succ]
                  refine wpAnyH_take (i := 18) (oi := _) (v := _) (by simp only [List.getElem?_toArray, List.getElem?_cons_succ, List.getElem?_cons_zero]; rfl) (by kernel_rfl) (by kernel_rfl) (by kernel_rfl) (by exact fun _ _ _ h => h) (Or.inl ⟨by rfl, by intro w' hSw; (try dsimp only at hSw); first | (go_simp; done) | (go_simp; with_reducible rfl)⟩) hHeld ?_
                  simp only [Act.put, List.setIfInBounds_toArray, List.set_cons_zero, List.set_cons_succ]
                  refine wpAnyH_take (i := 19) (oi := _) (v := _) (by simp only [List.getElem?_toArray, List.getElem?_cons_succ, List.getElem?_cons_zero]; rfl) (by kernel_rfl) (by kernel_rfl) (by kernel_rfl) (by exact fun _ _ _ h => h) (Or.inl ⟨by rfl, by intro w' hSw; (try dsimp only at hSw); first | (go_simp; done) | (go_simp; with_reducible rfl)⟩) hHeld ?_
                  simp only [Act.put, List.setIfInBounds_toArray, List.set_cons_zero, List.set_cons_succ]
                  refine wpAnyH_take (i := 20) (oi := _) (v := undef) (by simp only [List.getElem?_toArray, List.getElem?_cons_succ, List.getElem?_cons_zero]; rfl) (by kernel_rfl) (by kernel_rfl) (by kernel_rfl) (by exact fun _ _ _ h => h) (Or.inr ⟨by rfl, rfl⟩) hHeld ?_
                  simp only [Act.put, List.setIfInBounds_toArray, List.set_cons_zero, List.set_cons_succ]
                  refine wpAnyH_take (i := 21) (oi := _) (v := undef) (by simp only [List.getElem?_toArray, List.getElem?_cons_succ, List.getElem?_cons_zero]; rfl) (by kernel_rfl) (by kernel_rfl) (by kernel_rfl) (by exact fun _ _ _ h => h) (Or.inr ⟨by rfl, rfl⟩) hHeld ?_
                  simp only [Act.put, List.setIfInBounds_toArray, List.set_cons_zero, List.set_cons_succ]
                  refine wpAnyH_take (i := 22) (oi := _) (v := undef) (by simp only [List.getElem?_toArray, List.getElem?_cons_succ, List.getElem?_cons_zero]; rfl) (by kernel_rfl) (by kernel_rfl) (by kernel_rfl) (by exact fun _ _ _ h => h) (Or.inr ⟨by rfl, rfl⟩) hHeld ?_
                  simp only [Act.put, List.setIfInBounds_toArray, List.set_cons_zero, List.set_cons_succ]
                  refine wpAnyH_take (i := 23) (oi := _) (v := undef) (by simp only [List.getElem?_toArray, List.getElem?_cons_succ, List.getElem?_cons_zero]; rfl) (by kernel_rfl) (by kernel_rfl) (by kernel_rfl) (by exact fun _ _ _ h => h) (Or.inr ⟨by rfl, rfl⟩) hHeld ?_
                  simp only [Act.put, List.setIfInBounds_toArray, List.set_cons_zero, List.set_cons_succ]
                  refine wpAnyH_take (i := 24) (oi := _) (v := undef) (by simp only [List.getElem?_toArray, List.getElem?_cons_succ, List.getElem?_cons_zero]; rfl) (by kernel_rfl) (by kernel_rfl) (by kernel_rfl) (by exact fun _ _ _ h => h) (Or.inr ⟨by rfl, rfl⟩) hHeld ?_
                  simp only [Act.put, List.setIfInBounds_toArray, List.set_cons_zero, List.set_cons_succ]
                  refine wpAnyH_take (i := 25) (oi := _) (v := undef) (by simp only [List.getElem?_toArray, List.getElem?_cons_succ, List.getElem?_cons_zero]; rfl) (by kernel_rfl) (by kernel_rfl) (by kernel_rfl) (by exact fun _ _ _ h => h) (Or.inr ⟨by rfl, rfl⟩) hHeld ?_
                  simp only [Act.put, List.setIfInBounds_toArray, List.set_cons_zero, List.set_cons_succ]
                  refine wpAnyH_take (i := 26) (oi := _) (v := undef) (by simp only [List.getElem?_toArray, List.getElem?_cons_succ, List.getElem?_cons_zero]; rfl) (by kernel_rfl) (by kernel_rfl) (by kernel_rfl) (by exact fun _ _ _ h => h) (Or.inr ⟨by rfl, rfl⟩) hHeld ?_
                  simp only [Act.put, List.setIfInBounds_toArray, List.set_cons_zero, List.set_cons_succ]
                  refine wpAnyH_take (i := 27) (oi := _) (v := _) (by simp only [List.getElem?_toArray, List.getElem?_cons_succ, List.getElem?_cons_zero]; rfl) (by kernel_rfl) (by kernel_rfl) (by kernel_rfl) (by exact fun _ _ _ h => h) (Or.inl ⟨by rfl, by intro w' hSw; (try dsimp only at hSw); first | (go_simp; done) | (go_simp; with_reducible rfl)⟩) hHeld ?_
                  simp only [Act.put, List.setIfInBounds_toArray, List.set_cons_zero, List.set_cons_succ]
                  refine wpAnyH_take (i := 28) (oi := _) (v := _) (by simp only [List.getElem?_toArray, List.getElem?_cons_succ, List.getElem?_cons_zero]; rfl) (by kernel_rfl) (by kernel_rfl) (by kernel_rfl) (by exact fun _ _ _ h => h) (Or.inl ⟨by rfl, by intro w' hSw; (try dsimp only at hSw); first | (go_simp; done) | (go_simp; with_reducible rfl)⟩) hHeld ?_
                  simp only [Act.put, List.setIfInBounds_toArray, List.set_cons_zero, List.set_cons_succ]
                  refine wpAnyH_done (by kernel_rfl) ?_ _
                  have Hi5 : Hid (InS w4 w2.heap.size ⟨(cat L (j + 1) (k - (j + 1))).toArray⟩ 0) := hi4
                  have Hb5 : Hid (Below w.heap.size w w4) := ((Hbr.out.alloc Hbr.out.size _).drew).trans (ho4.below hB2)
                  clear hi4 ho4 hHeld
                  go_wp2
                  go_roundw
                  case rel => exact ⟨j + 1, by omega, by go_num, Hi5, Hb5⟩
                  case measure => simp [intOf]; omega
              · have hT' : (L j).isText = false := Bool.eq_false_iff.2 hT
                clear hT
                rcases cutT_cases (L j) with ⟨hA, hA'⟩ | ⟨hA, hA'⟩ <;> rcases hcs with ⟨hS, hS'⟩ | ⟨hS, hS'⟩
                all_goals as_aux_lemma =>
                  have HT : Hid _ := hA'
                  have HZ : Hid _ := hS'
                  clear hA' hS'
                  have HNK : Hid _ := num_piece (L j) p (cat L (j + 1) (k - (j + 1))) hT' HP.out
                  go_wp2_with fail
                  rw [← HT.out, ← HZ.out]
                  have Hi3 : Hid _ := Hi2.out.kept ((Below.refl _ _).alloc (Nat.le_refl _) (.cells #[.string (cutT (L j)), .int .i64 (L j).n, .int .i64 (cutS (L j)), .bool false] 28))
                  refine wp_region_held_drew (S := fun w' => w'.cell? ⟨wr.heap.size, 0, none⟩ = some (.string (cutT (L j))) ∧ w'.cell? ⟨wr.heap.size, 1, none⟩ = some (.int .i64 (L j).n) ∧ w'.cell? ⟨wr.heap.size, 2, none⟩ = some (.int .i64 (cutS (L j))) ∧ w'.cell? ⟨wr.heap.size, 3, none⟩ = some (.bool false)) (by kernel_rfl) (by simp) (fun hHeld => ?_)
                  change wpAnyH _ _ _ _ _ 29 (Array.replicate 29 false) _ _
                  refine wpAnyH_take (i := 0) (oi := _) (v := _) (by simp only [List.getElem?_toArray, List.getElem?_cons_zero]; rfl) (by kernel_rfl) (by kernel_rfl) (by kernel_rfl) (by exact fun _ _ _ h => h) (Or.inl ⟨by rfl, by intro w' hSw; (try dsimp only at hSw); first | (go_simp; done) | (go_simp; with_reducible rfl)⟩) hHeld ?_
                  simp only [Act.put, List.setIfInBounds_toArray, List.set_cons_zero, List.set_cons_succ]
                  refine wpAnyH_take (i := 1) (oi := _) (v := _) (by simp only [List.getElem?_toArray, List.getElem?_cons_succ, List.getElem?_cons_zero]; rfl) (by kernel_rfl) (by kernel_rfl) (by kernel_rfl) (by exact fun _ _ _ h => h) (Or.inl ⟨by rfl, by intro w' hSw; (try dsimp only at hSw); first | (go_simp; done) | (go_simp; with_reducible rfl)⟩) hHeld ?_
                  simp only [Act.put, List.setIfInBounds_toArray, List.set_cons_zero, List.set_cons_succ]
                  refine wpAnyH_take (i := 2) (oi := _) (v := _) (by simp only [List.getElem?_toArray, List.getElem?_cons_succ, List.getElem?_cons_zero]; rfl) (by kernel_rfl) (by kernel_rfl) (by kernel_rfl) (by exact fun _ _ _ h => h) (Or.inl ⟨by rfl, by intro w' hSw; (try dsimp only at hSw); first | (go_simp; done) | (go_simp; with_reducible rfl)⟩) hHeld ?_
                  simp only [Act.put, List.setIfInBounds_toArray, List.set_cons_zero, List.set_cons_succ]
                  refine wpAnyH_take (i := 3) (oi := _) (v := undef) (by simp only [List.getElem?_toArray, List.getElem?_cons_succ, List.getElem?_cons_zero]; rfl) (by kernel_rfl) (by kernel_rfl) (by kernel_rfl) (by exact fun _ _ _ h => h) (Or.inr ⟨by rfl, rfl⟩) hHeld ?_
                  simp only [Act.put, List.setIfInBounds_toArray, List.set_cons_zero, List.set_cons_succ]
                  refine wpAnyH_take (i := 4) (oi := _) (v := undef) (by simp only [List.getElem?_toArray, List.getElem?_cons_succ, List.getElem?_cons_zero]; rfl) (by kernel_rfl) (by kernel_rfl) (by kernel_rfl) (by exact fun _ _ _ h => h) (Or.inr ⟨by rfl, rfl⟩) hHeld ?_
                  simp only [Act.put, List.setIfInBounds_toArray, List.set_cons_zero, List.set_cons_succ]
                  refine wpAnyH_take (i := 5) (oi := _) (v := undef) (by simp only [List.getElem?_toArray, List.getElem?_cons_succ, List.getElem?_cons_zero]; rfl) (by kernel_rfl) (by kernel_rfl) (by kernel_rfl) (by exact fun _ _ _ h => h) (Or.inr ⟨by rfl, rfl⟩) hHeld ?_
                  simp only [Act.put, List.setIfInBounds_toArray, List.set_cons_zero, List.set_cons_succ]
                  refine wpAnyH_take (i := 6) (oi := _) (v := undef) (by simp only [List.getElem?_toArray, List.getElem?_cons_succ, List.getElem?_cons_zero]; rfl) (by kernel_rfl) (by kernel_rfl) (by kernel_rfl) (by exact fun _ _ _ h => h) (Or.inr ⟨by rfl, rfl⟩) hHeld ?_
                  simp only [Act.put, List.setIfInBounds_toArray, List.set_cons_zero, List.set_cons_succ]
                  refine wpAnyH_take (i := 7) (oi := _) (v := undef) (by simp only [List.getElem?_toArray, List.getElem?_cons_succ, List.getElem?_cons_zero]; rfl) (by kernel_rfl) (by kernel_rfl) (by kernel_rfl) (by exact fun _ _ _ h => h) (Or.inr ⟨by rfl, rfl⟩) hHeld ?_
                  simp only [Act.put, List.setIfInBounds_toArray, List.set_cons_zero, List.set_cons_succ]
                  refine wpAnyH_take (i := 8) (oi := _) (v := undef) (by simp only [List.getElem?_toArray, List.getElem?_cons_succ, List.getElem?_cons_zero]; rfl) (by kernel_rfl) (by kernel_rfl) (by kernel_rfl) (by exact fun _ _ _ h => h) (Or.inr ⟨by rfl, rfl⟩) hHeld ?_
                  simp only [Act.put, List.setIfInBounds_toArray, List.set_cons_zero, List.set_cons_succ]
                  refine wpAnyH_take (i := 9) (oi := _) (v := undef) (by simp only [List.getElem?_toArray, List.getElem?_cons_succ, List.getElem?_cons_zero]; rfl) (by kernel_rfl) (by kernel_rfl) (by kernel_rfl) (by exact fun _ _ _ h => h) (Or.inr ⟨by rfl, rfl⟩) hHeld ?_
                  simp only [Act.put, List.setIfInBounds_toArray, List.set_cons_zero, List.set_cons_succ]
                  refine wpAnyH_take (i := 10) (oi := _) (v := undef) (by simp only [List.getElem?_toArray, List.getElem?_cons_succ, List.getElem?_cons_zero]; rfl) (by kernel_rfl) (by kernel_rfl) (by kernel_rfl) (by exact fun _ _ _ h => h) (Or.inr ⟨by rfl, rfl⟩) hHeld ?_
                  simp only [Act.put, List.setIfInBounds_toArray, List.set_cons_zero, List.set_cons_succ]
                  refine wpAnyH_take (i := 11) (oi := _) (v := undef) (by simp only [List.getElem?_toArray, List.getElem?_cons_succ, List.getElem?_cons_zero]; rfl) (by kernel_rfl) (by kernel_rfl) (by kernel_rfl) (by exact fun _ _ _ h => h) (Or.inr ⟨by rfl, rfl⟩) hHeld ?_
                  simp only [Act.put, List.setIfInBounds_toArray, List.set_cons_zero, List.set_cons_succ]
                  refine wpAnyH_take (i := 12) (oi := _) (v := undef) (by simp only [List.getElem?_toArray, List.getElem?_cons_succ, List.getElem?_cons_zero]; rfl) (by kernel_rfl) (by kernel_rfl) (by kernel_rfl) (by exact fun _ _ _ h => h) (Or.inr ⟨by rfl, rfl⟩) hHeld ?_
                  simp only [Act.put, List.setIfInBounds_toArray, List.set_cons_zero, List.set_cons_succ]
                  refine wpAnyH_take (i := 13) (oi := _) (v := undef) (by simp only [List.getElem?_toArray, List.getElem?_cons_succ, List.getElem?_cons_zero]; rfl) (by kernel_rfl) (by kernel_rfl) (by kernel_rfl) (by exact fun _ _ _ h => h) (Or.inr ⟨by rfl, rfl⟩) hHeld ?_
                  simp only [Act.put, List.setIfInBounds_toArray, List.set_cons_zero, List.set_cons_succ]
                  refine wpAnyH_take (i := 14) (oi := _) (v := _) (by simp only [List.getElem?_toArray, List.getElem?_cons_succ, List.getElem?_cons_zero]; rfl) (by kernel_rfl) (by kernel_rfl) (by kernel_rfl) (by exact fun _ _ _ h => h) (Or.inl ⟨by rfl, by intro w' hSw; (try dsimp only at hSw); first | (go_simp; done) | (go_simp; with_reducible rfl)⟩) hHeld ?_
                  simp only [Act.put, List.setIfInBounds_toArray, List.set_cons_zero, List.set_cons_succ]
                  refine wpAnyH_take (i := 15) (oi := _) (v := _) (by simp only [List.getElem?_toArray, List.getElem?_cons_succ, List.getElem?_cons_zero]; rfl) (by kernel_rfl) (by kernel_rfl) (by kernel_rfl) (by exact fun _ _ _ h => h) (Or.inl ⟨by rfl, by intro w' hSw; (try dsimp only at hSw); first | (go_simp; done) | (go_simp; with_reducible rfl)⟩) hHeld ?_
                  simp only [Act.put, List.setIfInBounds_toArray, List.set_cons_zero, List.set_cons_succ]
                  refine wpAnyH_take (i := 16) (oi := _) (v := _) (by simp only [List.getElem?_toArray, List.getElem?_cons_succ, List.getElem?_cons_zero]; rfl) (by kernel_rfl) (by kernel_rfl) (by kernel_rfl) (by exact fun _ _ _ h => h) (Or.inl ⟨by rfl, by intro w' hSw; (try dsimp only at hSw); first | (go_simp; done) | (go_simp; with_reducible rfl)⟩) hHeld ?_
                  simp only [Act.put, List.setIfInBounds_toArray, List.set_cons_zero, List.set_cons_succ]
                  refine wpAnyH_take (i := 17) (oi := _) (v := _) (by simp only [List.getElem?_toArray, List.getElem?_cons_succ, List.getElem?_cons_zero]; rfl) (by kernel_rfl) (by kernel_rfl) (by kernel_rfl) (by exact fun _ _ _ h => h) (Or.inl ⟨by rfl, by intro w' hSw; (try dsimp only at hSw); first | (go_simp; done) | (go_simp; with_reducible rfl)⟩) hHeld ?_
                  simp only [Act.put, List.setIfInBounds_toArray, List.set_cons_zero, List.set_cons_succ]
                  refine wpAnyH_take (i := 18) (oi := _) (v := _) (by simp only [List.getElem?_toArray, List.getElem?_cons_succ, List.getElem?_cons_zero]; rfl) (by kernel_rfl) (by kernel_rfl) (by kernel_rfl) (by exact fun _ _ _ h => h) (Or.inl ⟨by rfl, by intro w' hSw; (try dsimp only at hSw); first | (go_simp; done) | (go_simp; with_reducible rfl)⟩) hHeld ?_
                  simp only [Act.put, List.setIfInBounds_toArray, List.set_cons_zero, List.set_cons_succ]
                  refine wpAnyH_take (i := 19) (oi := _) (v := _) (by simp only [List.getElem?_toArray, List.getElem?_cons_succ, List.getElem?_cons_zero]; rfl) (by kernel_rfl) (by kernel_rfl) (by kernel_rfl) (by exact fun _ _ _ h => h) (Or.inl ⟨by rfl, by intro w' hSw; (try dsimp only at hSw); first | (go_simp; done) | (go_simp; with_reducible rfl)⟩) hHeld ?_
                  simp only [Act.put, List.setIfInBounds_toArray, List.set_cons_zero, List.set_cons_succ]
                  refine wpAnyH_take (i := 20) (oi := _) (v := _) (by simp only [List.getElem?_toArray, List.getElem?_cons_succ, List.getElem?_cons_zero]; rfl) (by kernel_rfl) (by kernel_rfl) (by kernel_rfl) (by exact fun _ _ _ h => h) (Or.inl ⟨by rfl, by intro w' hSw; (try dsimp only at hSw); first | (go_simp; done) | (go_simp; with_reducible rfl)⟩) hHeld ?_
                  simp only [Act.put, List.setIfInBounds_toArray, List.set_cons_zero, List.set_cons_succ]
                  refine wpAnyH_take (i := 21) (oi := _) (v := _) (by simp only [List.getElem?_toArray, List.getElem?_cons_succ, List.getElem?_cons_zero]; rfl) (by kernel_rfl) (by kernel_rfl) (by kernel_rfl) (by exact fun _ _ _ h => h) (Or.inl ⟨by rfl, by intro w' hSw; (try dsimp only at hSw); first | (go_simp; done) | (go_simp; with_reducible rfl)⟩) hHeld ?_
                  simp only [Act.put, List.setIfInBounds_toArray, List.set_cons_zero, List.set_cons_succ]
                  refine wpAnyH_take (i := 22) (oi := _) (v := _) (by simp only [List.getElem?_toArray, List.getElem?_cons_succ, List.getElem?_cons_zero]; rfl) (by kernel_rfl) (by kernel_rfl) (by kernel_rfl) (by exact fun _ _ _ h => h) (Or.inl ⟨by rfl, by intro w' hSw; (try dsimp only at hSw); first | (go_simp; done) | (go_simp; with_reducible rfl)⟩) hHeld ?_
                  simp only [Act.put, List.setIfInBounds_toArray, List.set_cons_zero, List.set_cons_succ]
                  refine wpAnyH_take (i := 24) (oi := _) (v := _) (by simp only [List.getElem?_toArray, List.getElem?_cons_succ, List.getElem?_cons_zero]; rfl) (by kernel_rfl) (by kernel_rfl) (by kernel_rfl) (by exact fun _ _ _ h => h) (Or.inl ⟨by rfl, by intro w' hSw; (try dsimp only at hSw); first | (go_simp; done) | (go_simp; with_reducible rfl)⟩) hHeld ?_
                  simp only [Act.put, List.setIfInBounds_toArray, List.set_cons_zero, List.set_cons_succ]
                  refine wpAnyH_take (i := 25) (oi := _) (v := _) (by simp only [List.getElem?_toArray, List.getElem?_cons_succ, List.getElem?_cons_zero]; rfl) (by kernel_rfl) (by kernel_rfl) (by kernel_rfl) (by exact fun _ _ _ h => h) (Or.inl ⟨by rfl, by intro w' hSw; (try dsimp only at hSw); first | (go_simp; done) | (go_simp; with_reducible rfl)⟩) hHeld ?_
                  simp only [Act.put, List.setIfInBounds_toArray, List.set_cons_zero, List.set_cons_succ]
                  refine wpAnyH_ready (rs := [23]) (by kernel_rfl) (by simp) ?_
                  refine AllReadyH.cons rfl (fun K hK => ?_) AllReadyH.nil
                  go_simp
                  go_wp2_with fail
                  refine (innum_any _ _ _ _ _ (by exact Hi3.out)).mono ?_
                  rw [HNK.out]
                  rintro r w4 ⟨rfl, hi4, ho4⟩
                  go_wp2_with fail
                  refine hK.out _ _ ?_ (fun hHeld => ?_)
                  · refine ⟨?_, ?_, ?_, ?_⟩ <;> (rw [World.cell?_of_block (ho4.block wr.heap.size (by omega))]; simp)
                  clear hK K
                  refine wpAnyH_take (i := 26) (oi := _) (v := _) (by simp only [List.getElem?_toArray, List.getElem?_cons_succ, List.getElem?_cons_zero]; rfl) (by kernel_rfl) (by kernel_rfl) (by kernel_rfl) (by exact fun _ _ _ h => h) (Or.inl ⟨by rfl, by intro w' hSw; (try dsimp only at hSw); first | (go_simp; done) | (go_simp; with_reducible rfl)⟩) hHeld ?_
                  simp only [Act.put, List.setIfInBounds_toArray, List.set_cons_zero, List.set_cons_succ]
                  refine wpAnyH_take (i := 27) (oi := _) (v := _) (by simp only [List.getElem?_toArray, List.getElem?_cons_succ, List.getElem?_cons_zero]; rfl) (by kernel_rfl) (by kernel_rfl) (by kernel_rfl) (by exact fun _ _ _ h => h) (Or.inl ⟨by rfl, by intro w' hSw; (try dsimp only at hSw); first | (go_simp; done) | (go_simp; with_reducible rfl)⟩) hHeld ?_
                  simp only [Act.put, List.setIfInBounds_toArray, List.set_cons_zero, List.set_cons_succ]
                  refine wpAnyH_take (i := 28) (oi := _) (v := _) (by simp only [List.getElem?_toArray, List.getElem?_cons_succ, List.getElem?_cons_zero]; rfl) (by kernel_rfl) (by kernel_rfl) (by kernel_rfl) (by exact fun _ _ _ h => h) (Or.inl ⟨by rfl, by intro w' hSw; (try dsimp only at hSw); first | (go_simp; done) | (go_simp; with_reducible rfl)⟩) hHeld ?_
                  simp only [Act.put, List.setIfInBounds_toArray, List.set_cons_zero, List.set_cons_succ]
                  refine wpAnyH_done (by kernel_rfl) ?_ _
                  have Hi5 : Hid (InS w4 w2.heap.size ⟨(cat L (j + 1) (k - (j + 1))).toArray⟩ 0) := hi4
                  have Hb5 : Hid (Below w.heap.size w w4) := ((Hbr.out.alloc Hbr.out.size _).drew).trans (ho4.below hB2)
                  clear hi4 ho4 hHeld
                  go_wp2
                  go_roundw
                  case rel => exact ⟨j + 1, by omega, by go_num, Hi5, Hb5⟩
                  case measure => simp [intOf]; omega
            · obtain rfl : j = k := by omega
              have Hi2 : Hid (InS wr w2.heap.size ByteArray.empty 0) := by
                have e : cat L j (j - j) = [] := by rw [Nat.sub_self]; rfl
                have := Hi.out
                rw [e] at this
                exact this
              go_wp2_with fail
              refine (end_any _ _ _ _ Hi2.out).mono ?_
              rintro r w5 ⟨rfl, rfl⟩
              rw [sp5]
              go_wp2
              go_ret
              exact ⟨rfl, Hbr.out⟩

theorem leOuts_calls {H : Type} {enc : TypeId × Value → H} {sp : Nat → Bool} {held : Bool} {d : DataW H} {p : List MemPlace} (a : Option Addr) (len cap : Nat) (w : World)
    (h : DataW.Trod enc Tryd.prog w 0 sp held 22 (.slice a len cap) d p) (hg : ErrT w) :
    Calls Tryd.prog 3 #[.slice a len cap] w fun r w' => r = .returned (.bool true) ∧ Below w.heap.size w w' := by
  obtain ⟨L, hL, hl⟩ := items_of_trod h
  exact leOuts_walk a len cap L w hl hL hg

end Go.Proofs.YtmcaiaafdbeihaaDoor.Le
