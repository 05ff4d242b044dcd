/-
  BitsPlays: the walk. Condition: the table of four steps, and errors.errorType, hold what their initialisers lay.
-/
import Derived.Test.YtkflhakgfpiiaaaDoorBtNone
import Derived.Test.YtkflhakgfpiiaaaDoorBtRun
import Derived.Test.YtkflhakgfpiiaaaDoorBtSame
import Derived.Test.YtkflhakgfpiiaaaDoorBtPutR
import Derived.Test.YtkflhakgfpiiaaaDoorBtGet2
import Derived.Deep.RegionHeld3
namespace Go.Proofs.YtkflhakgfpiiaaaDoor.Bt
open Go.ChangeShapes Go.WideShapes Go.ChangeAt Go.RowKit Go.Proofs.Fa
open Go.Proofs.YtkflhakgfpiiaaaDoor.Mk (NibAt openF sealS padS open_seal)
open Go.Proofs.YtkflhakgfpiiaaaDoor.As (ErrT)

set_option maxRecDepth 100000
set_option maxHeartbeats 1000000

theorem pad_body (B : Nat → Nat) : padS (bodyS B) = bodyS B := by
  apply Mk.ext_bytes
  unfold padS
  rw [bodyS_size]
  simp
theorem open_body (B : Nat → Nat) : openF 5 (sealS 5 (bodyS B)) = (bodyS B, 0) := by
  rw [open_seal (by decide) (by decide) (by rw [bodyS_size]; exact Nat.le_refl _), pad_body]
theorem strB_body (B : Nat → Nat) (h : ∀ j, B j < 256) (j : Nat) (hj : j < 504) : strB (bodyS B) j = B j := by
  unfold strB bodyS
  rw [strOfNums_data]
  have := h j
  simp [bodyL, hj]
  omega
theorem tk_body (B : Nat → Nat) (h : ∀ j, B j < 256) (i : Nat) (hi : i < 4032) : tk (strB (bodyS B)) i = tk B i := by
  unfold tk
  rw [strB_body B h _ (by omega)]
theorem bey_body (B : Nat → Nat) (h : ∀ j, B j < 256) (n : Nat) : beyB (strB (bodyS B)) n = beyB B n := by
  cases hb : beyB B n
  · exact beyB_no (fun i h1 h2 => by rw [tk_body B h i h2]; exact beyB_free hb i h1 h2)
  · unfold beyB at hb
    rw [List.any_eq_true] at hb
    obtain ⟨i, h1, h2⟩ := hb
    have h3 := List.mem_range.1 h1
    exact beyB_yes (i := n + i) (by omega) (by omega) (by rw [tk_body B h _ (by omega)]; exact h2)

theorem make_set (m : Nat) (h1 : m ≤ 1000000) (W : World) :
    Sem.run Tryd.prog (Instr.makeSlice 30 (.int .i64 m) (.int .i64 m)) W = .ok (.slice (some ⟨W.heap.size, 0, none⟩) m m) (W.alloc (.cells (madeCells (Value.bool false).cells m) 4)) := by
  obtain ⟨i0, hi, hz0, hz1, hz2⟩ := info_parts info_bool
  have := run_makeSlice (P := Tryd.prog) W 30 4 i0 (.bool false) Tryd.underlying30 hi hz0 .i64 .i64 m m (by omega) (Int.le_refl _) (by rw [hz1]; omega) (by rw [hz2]; omega) (by omega)
  rw [hz1, Nat.mul_one] at this
  exact this
theorem made_row (W : World) (m : Nat) (h1 : m ≤ 1000000) : RowB (W.alloc (.cells (madeCells (Value.bool false).cells m) 4)) W.heap.size (.slice (some ⟨W.heap.size, 0, none⟩) m m) m (fun _ => false) := by
  have hc : (Value.bool false).cells = #[Value.bool false] := rfl
  have hs : (madeCells (Value.bool false).cells m).size = m := by simp [madeCells, hc]
  refine ⟨by rw [bcells_length, Nat.mul_one], .inr ⟨_, m, _, rfl, Nat.le_refl _, heap_alloc_new _ _, Nat.le_refl _, by unfold maxLen; omega, by rw [hs, Nat.mul_one], ?_⟩⟩
  apply List.ext_getElem?
  intro i
  unfold bcells
  by_cases hi : i < m
  · simp [madeCells, hi, hc, Nat.mod_one]
  · simp [madeCells, hi, hc]
theorem RowB.congr {w : World} {C n : Nat} {v : Value} {f g : Nat → Bool} (h : RowB w C v n f) (e : ∀ i, i < n → f i = g i) : RowB w C v n g := by
  unfold RowB
  rw [← bcells_congr e]
  exact h

theorem RowB.lower {w : World} {C D n : Nat} {v : Value} {f : Nat → Bool} (h : RowB w C v n f) (hD : D ≤ C) : RowB w D v n f := by
  refine ⟨h.1, ?_⟩
  rcases h.2 with h | ⟨g, c1, c2, h1, h2, h3⟩
  · exact .inl h
  · exact .inr ⟨g, c1, c2, h1, Nat.le_trans hD h2, h3⟩
theorem RowB.upd {w w' : World} {C b n : Nat} {v : Value} {f : Nat → Bool} (h : RowB w C v n f) (hu : Upd b w w') (hb : b < C) : RowB w' C v n f := by
  refine ⟨h.1, ?_⟩
  rcases h.2 with h | ⟨g, c1, c2, h1, h2, h3, h4⟩
  · exact .inl h
  · exact .inr ⟨g, c1, c2, h1, h2, (hu.block g (lt_of_heap h3) (by omega)).trans h3, h4⟩
theorem B0_tk' (j : Nat) : tk B0 j = false := by unfold tk B0; simp
theorem i64_le {x : Int} (h : (Lit.int .i64 x).wf = true) : x ≤ 9223372036854775807 := by
  simp only [Lit.wf, IntKind.min, IntKind.max, IntKind.signed, IntKind.bits, Bool.and_eq_true, decide_eq_true_eq, if_true] at h
  omega
theorem and63p (n : Int) : bits .and .i64 n 63 = n % 64 := Le.i64_and_mask n 6 (by decide)

/-- What holds at every act. -/
structure PlayAt (w : World) (sb : Nat) (rv : Value) (n : Nat) (w0 : World) (B : Nat → Nat) : Prop where
  set : SetAt w sb n B
  row : RowB w (sb + 1) rv n (tk B)
  bey : beyB B n = false
  low : Below w0.heap.size w0 w

theorem PlayAt.below {w w' w0 : World} {sb n : Nat} {rv : Value} {B : Nat → Nat} (h : PlayAt w sb rv n w0 B) (hb : Below w.heap.size w w') : PlayAt w' sb rv n w0 B :=
  ⟨h.set.below hb (Nat.le_refl _), row_below' h.row hb (Nat.le_refl _), h.bey, h.low.trans (hb.mono h.low.size)⟩
/-- And an act lies at a block of its own. -/
structure PX (w : World) (sb : Nat) (rv : Value) (n : Nat) (w0 : World) (B : Nat → Nat) (xb : Nat) (iw ii im : Int) : Prop where
  play : PlayAt w sb rv n w0 B
  x : w.heap[xb]? = some (.cells #[.int .i64 iw, .int .i64 ii, .int .i64 im] 32 (0, 0))
  ne : sb ≠ xb
theorem PX.below {w w' w0 : World} {sb n xb : Nat} {rv : Value} {B : Nat → Nat} {iw ii im : Int} (h : PX w sb rv n w0 B xb iw ii im) (hb : Below w.heap.size w w') : PX w' sb rv n w0 B xb iw ii im :=
  ⟨h.play.below hb, (hb.block _ (lt_of_heap h.x)).trans h.x, h.ne⟩
theorem PX.c1 {w w0 : World} {sb n xb : Nat} {rv : Value} {B : Nat → Nat} {iw ii im : Int} (h : PX w sb rv n w0 B xb iw ii im) : w.cell? ⟨xb, 1, none⟩ = some (.int .i64 ii) := cell_of_heap h.x 1 _ rfl
theorem PX.c2 {w w0 : World} {sb n xb : Nat} {rv : Value} {B : Nat → Nat} {iw ii im : Int} (h : PX w sb rv n w0 B xb iw ii im) : w.cell? ⟨xb, 2, none⟩ = some (.int .i64 im) := cell_of_heap h.x 2 _ rfl
theorem turn_in {n : Nat} {B : Nat → Nat} {i m : Int} {t : Bool} {o : Int} (ho : (1 : Int) ≠ 0) (h : turnE n B i m t o = 0) : ∃ p q : Nat, i = p ∧ m = q ∧ p + q ≤ n ∧ 1 ≤ q := by
  unfold turnE at h
  cases hI : insideF n i m
  · rw [hI, if_neg (by decide)] at h; exact absurd h ho
  · unfold insideF at hI
    simp only [Bool.and_eq_true, decide_eq_true_eq] at hI
    exact ⟨i.toNat, m.toNat, by omega, by omega, by omega, by omega⟩
theorem bey_flips {B : Nat → Nat} {n p q : Nat} (h : p + q ≤ n) (hb : beyB B n = false) : beyB (flipsB B p q) n = false :=
  beyB_no (fun i h1 h2 => by rw [tk_flips, if_neg (by omega)]; exact beyB_free hb i h1 h2)

theorem bitsPlays_walk (n0 : Int) (a : Option Addr) (len cap : Nat) (L : Nat → Act3) (w : World) (hI : ItemsAt w a len L) (hE : ErrT w) (hn : NibAt w) :
    Calls Tryd.prog 3 #[.int .i64 n0, .slice a len cap] w fun r w' => r = .returned (.bool true) ∧ Below w.heap.size w w' := by
  have HI0 : Hid (ItemsAt w a len L) := hI
  have HN : Hid (NibAt w) := hn
  have HE : Hid (ErrT w) := hE
  clear hI hn hE
  obtain ⟨n, hnn, hn1, hn64⟩ : ∃ n : Nat, wrap64 (1 + bits BinOp.and IntKind.i64 n0 63) = n ∧ 1 ≤ n ∧ n ≤ 64 := ⟨(1 + n0 % 64).toNat, by rw [and63p]; unfold wrap64; omega, by omega, by omega⟩
  have HNN : Hid (_ = (n : Int)) := hnn
  clear hnn
  go_enter Tryd.func3, Tryd.ntmps3
  go_wp2_with fail
  refine (speaks_any _ HN.out).mono ?_
  rintro r w1 ⟨rfl, hb1⟩
  have HB1 : Hid (Below w.heap.size w w1) := hb1
  clear hb1
  go_wp2_with fail
  rw [HNN.out]
  refine (new_yes n w1 (by rw [decide_eq_true (by omega), decide_eq_true (by omega)]; rfl)).mono ?_
  rintro r w2 ⟨rfl, c, hc, hw2⟩
  have HB2 : Hid (Below w.heap.size w w2) := by rw [hw2]; exact HB1.out.alloc HB1.out.size _
  obtain ⟨sb, hsb⟩ : ∃ sb, sb = w1.heap.size := ⟨_, rfl⟩
  have HS2 : Hid (SetAt w2 sb n B0) := ⟨c, by rw [hw2, hsb]; exact heap_alloc_new _ _, hc⟩
  have HSB : Hid (w.heap.size ≤ sb) := by show _ ≤ _; rw [hsb]; exact HB1.out.size
  clear hw2 hc
  have hmk := make_set n (by omega) w2
  have hrow := made_row w2 n (by omega)
  generalize hmc : madeCells (Value.bool false).cells n = mc at *
  clear hmc
  go_wp2_with fail
  rw [← hsb]
  clear hsb
  have hlt2 : sb < w2.heap.size := by obtain ⟨_, h, _⟩ := HS2.out; exact lt_of_heap h
  have hP0 : PlayAt (w2.alloc (Obj.cells mc 4)) sb (.slice (some ⟨w2.heap.size, 0, none⟩) n n) n w B0 := ⟨HS2.out.below ((Below.refl _ _).alloc (Nat.le_refl _) _) (Nat.le_refl _), (hrow.lower (by omega)).congr (fun i _ => (B0_tk' i).symm), beyB_no (fun i _ _ => B0_tk' i), HB2.out.alloc HB2.out.size _⟩
  have HP0 : Hid (PlayAt (w2.alloc (Obj.cells mc 4)) sb (.slice (some ⟨w2.heap.size, 0, none⟩) n n) n w B0) := hP0
  clear hP0 hrow hmk HS2 HB2 hlt2
  generalize w2.alloc (Obj.cells mc 4) = w3 at *
  generalize Value.slice (some ⟨w2.heap.size, 0, none⟩) n n = rv0 at *
  go_loopw [7, 8] (fun rv i wr => ∃ (k : Nat) (B : Nat → Nat), (k ≤ len ∧ k ≤ 40) ∧ i = .int .i64 k ∧ PlayAt wr sb rv n w B) (fun _ i _ => 40 - (intOf i).toNat)
  case atStart => exact ⟨0, B0, ⟨Nat.zero_le _, by omega⟩, rfl, HP0.out⟩
  case round =>
    obtain ⟨k, B, ⟨hk1, hk2⟩, rfl, hP⟩ := hrel
    have HP : Hid (PlayAt wr sb _ n w B) := hP
    clear HP0 hP
    by_cases hlt : k < len ∧ k < 40
    · obtain ⟨hl1, hl2⟩ := hlt
      have hl1' : (k : Int) < (len : Int) := by omega
      have hl2' : (k : Int) < 40 := by omega
      have hIk := HI0.out.below HP.out.low (Nat.le_refl _)
      rcases hIk.1 with h0 | ⟨ib, off, rfl, hibl, hc⟩
      · omega
      · obtain ⟨i0, i1, i2⟩ := hc k hl1
        obtain ⟨q0, q1, q2⟩ := hIk.2 k hl1
        obtain ⟨it, hit⟩ : ∃ it, L k = it := ⟨_, rfl⟩
        rw [hit] at i0 i1 i2 q0 q1 q2
        clear hIk hc hit
        obtain ⟨iw, ii, im⟩ := it
        dsimp only at i0 i1 i2 q0 q1 q2
        have hii := i64_le q1
        have hlb : sb < wr.heap.size := by obtain ⟨_, h, _⟩ := HP.out.set; exact lt_of_heap h
        obtain ⟨w4, hw4⟩ : ∃ w4, w4 = wr.alloc (Obj.cells #[.int .i64 iw, .int .i64 ii, .int .i64 im] 32) := ⟨_, rfl⟩
        obtain ⟨xb, hxb⟩ : ∃ xb, xb = wr.heap.size := ⟨_, rfl⟩
        have HX4 : Hid (PX w4 sb u7 n w B xb iw ii im) := by
          rw [hw4, hxb]
          exact ⟨HP.out.below ((Below.refl _ _).alloc (Nat.le_refl _) _), heap_alloc_new _ _, by omega⟩
        clear HP
        by_cases hA : (wrap64 (iw.tmod 4 + 4)).tmod 4 = 2
        · have hA2 : ((wrap64 (iw.tmod 4 + 4)).tmod 4 == 2) = true := by rw [hA]; rfl
          clear hA

          have hmay := fun (W : World) (h : PX W sb u7 n w B xb iw ii im) => may_any (w := W) (B := sb + 1) u7 n (tk B) ii im true h.play.row (by omega) (by omega)
          have hturn := fun (W : World) (h : PX W sb u7 n w B xb iw ii im) => give_any (.pointer (some ⟨sb, 0, none⟩)) n B ii im W (.inr ⟨sb, rfl, h.play.set⟩) (by omega)
          rw [show mayF n (tk B) ii im true = turnE n B ii im true 8 from mayF_turn n B ii im true] at hmay
          by_cases hz : turnE n B ii im true 8 = 0
          · rw [hz] at hmay
            have HIN : Hid (∃ p q : Nat, ii = p ∧ im = q ∧ p + q ≤ n ∧ 1 ≤ q) := turn_in (by decide) hz
            have HZ : Hid (turnE n B ii im true 8 = 0) := hz
            clear hz
            go_wp2_with fail
            rw [← hw4, ← hxb]
            clear hw4 hxb hlb i0 i1 i2
            refine (hmay _ HX4.out).mono ?_
            rintro r w5 ⟨rfl, hw5⟩
            subst hw5
            clear hmay
            have c1 := HX4.out.c1
            have c2 := HX4.out.c2
            go_wp2_with fail
            refine (hturn _ HX4.out).mono ?_
            rintro r w6 ⟨rfl, _, hyes⟩
            rw [HZ.out]
            obtain ⟨b', hb', hS6, hU6⟩ := hyes HZ.out
            cases hb'
            obtain ⟨p, q, rfl, rfl, hpq, hq1⟩ := HIN.out
            rw [Int.toNat_natCast, Int.toNat_natCast] at hS6
            have HU6 : Hid (Upd sb w5 w6) := hU6
            have HS6 : Hid (SetAt w6 sb n (flipsB B p q)) := hS6
            have HL6 : Hid (Below w.heap.size w w6) := HX4.out.play.low.trans (hU6.below HSB.out HX4.out.play.low.size)
            have HR6 : Hid (RowB w6 (sb + 1) u7 n (tk B)) := HX4.out.play.row.upd hU6 (by omega)
            have HX6 : Hid (w6.heap[xb]? = some (.cells #[.int .i64 iw, .int .i64 p, .int .i64 q] 32 (0, 0))) := (hU6.block xb (lt_of_heap HX4.out.x) (Ne.symm HX4.out.ne)).trans HX4.out.x
            clear hturn hyes hS6 hU6 c1 c2
            go_wp2_with fail
            refine (code_any 0 w6 (HE.out.below HL6.out HE.out.lt)).mono ?_
            rintro r w7 ⟨rfl, hb7⟩
            have HS7 : Hid (SetAt w7 sb n (flipsB B p q)) := HS6.out.below hb7 (Nat.le_refl _)
            have HL7 : Hid (Below w.heap.size w w7) := HL6.out.trans (hb7.mono HL6.out.size)
            have HR7 : Hid (RowB w7 (sb + 1) u7 n (tk B)) := row_below' HR6.out hb7 (Nat.le_refl _)
            have HX7 : Hid (w7.heap[xb]? = some (.cells #[.int .i64 iw, .int .i64 p, .int .i64 q] 32 (0, 0))) := (hb7.block _ (lt_of_heap HX6.out)).trans HX6.out
            have c1 := cell_of_heap HX7.out 1 _ rfl
            have c2 := cell_of_heap HX7.out 2 _ rfl
            clear hb7
            go_wp2_with fail
            refine (turned_any (w := w7) (B := sb + 1) u7 n (tk B) p q HR7.out (by omega) hpq hq1).mono ?_
            rintro r w8 ⟨rv8, rfl, hR8, hb8⟩
            have HP8 : Hid (PlayAt w8 sb rv8 n w (flipsB B p q)) := by
              have h7 : sb < w7.heap.size := by obtain ⟨_, h, _⟩ := HS7.out; exact lt_of_heap h
              rw [turnF_tk] at hR8
              exact ⟨HS7.out.below hb8 (Nat.le_refl _), RowB.lower hR8 (by omega), bey_flips hpq HX4.out.play.bey, HL7.out.trans (hb8.mono HL7.out.size)⟩
            clear hR8 hb8 c1 c2
            go_wp2_with fail
            refine (same_any (w := w8) (C := sb + 1) (.pointer (some ⟨sb, 0, none⟩)) rv8 n (flipsB B p q) (.inr ⟨sb, rfl, HP8.out.set⟩) HP8.out.row).mono ?_
            rintro r w9 ⟨rfl, hb9⟩
            have HP9 : Hid (PlayAt w9 sb rv8 n w (flipsB B p q)) := HP8.out.below hb9
            clear hb9
            go_wp2
            go_roundw
            case rel => exact ⟨k + 1, _, ⟨by omega, by omega⟩, by go_num, HP9.out⟩
            case measure => simp [intOf]; omega
          · have HZ : Hid (turnE n B ii im true 8 ≠ 0) := hz
            clear hz
            obtain ⟨f, hf⟩ : ∃ f, turnE n B ii im true 8 = f := ⟨_, rfl⟩
            rw [hf] at HZ hmay
            have hfb : (f == 0) = false := by simpa using HZ.out
            have HF : Hid (turnE n B ii im true 8 = f) := hf
            clear hf
            go_wp2_with fail
            rw [← hw4, ← hxb]
            clear hw4 hxb hlb i0 i1 i2
            refine (hmay _ HX4.out).mono ?_
            rintro r w5 ⟨rfl, hw5⟩
            subst hw5
            clear hmay
            have c1 := HX4.out.c1
            have c2 := HX4.out.c2
            go_wp2_with fail
            refine (hturn _ HX4.out).mono ?_
            rintro r w6 ⟨rfl, hno, _⟩
            rw [HF.out] at hno ⊢
            have HX6 : Hid (PX w6 sb u7 n w B xb iw ii im) := HX4.out.below (hno HZ.out)
            clear hturn hno c1 c2
            go_wp2_with fail
            refine (code_any f w6 (HE.out.below HX6.out.play.low HE.out.lt)).mono ?_
            rintro r w7 ⟨rfl, hb7⟩
            have HX7 : Hid (PX w7 sb u7 n w B xb iw ii im) := HX6.out.below hb7
            clear hb7
            go_wp2_with fail
            refine (same_any (w := w7) (C := sb + 1) (.pointer (some ⟨sb, 0, none⟩)) u7 n B (.inr ⟨sb, rfl, HX7.out.play.set⟩) HX7.out.play.row).mono ?_
            rintro r w9 ⟨rfl, hb9⟩
            have HP9 : Hid (PlayAt w9 sb u7 n w B) := HX7.out.play.below hb9
            clear hb9
            go_wp2
            go_roundw
            case rel => exact ⟨k + 1, _, ⟨by omega, by omega⟩, by go_num, HP9.out⟩
            case measure => simp [intOf]; omega
        · by_cases hA3 : (wrap64 (iw.tmod 4 + 4)).tmod 4 = 3
          · have hA2 : ((wrap64 (iw.tmod 4 + 4)).tmod 4 == 2) = false := by rw [hA3]; rfl
            have hA3' : ((wrap64 (iw.tmod 4 + 4)).tmod 4 == 3) = true := by rw [hA3]; rfl
            clear hA hA3
            have hrun := fun (W : World) (h : PX W sb u7 n w B xb iw ii im) => run_any (.pointer (some ⟨sb, 0, none⟩)) n B im ii W (.inr ⟨sb, rfl, h.play.set⟩) (by omega)
            have href := fun (W : World) (h : PX W sb u7 n w B xb iw ii im) => refrun_any (w := W) (B := sb + 1) u7 n (tk B) im ii h.play.row (by omega)
            rw [run_same] at href
            cases hg : runG B n im ii with
            | none =>
              rw [hg] at href hrun
              rw [show optN none = .tuple #[.int .i64 0, .bool false] from rfl] at hrun
              dsimp only at href
              clear hg
              go_wp2_with fail
              rw [← hw4, ← hxb]
              clear hw4 hxb hlb i0 i1 i2
              refine (hrun _ HX4.out).mono ?_
              rintro r w5 ⟨rfl, hb5⟩
              have HX5 : Hid (PX w5 sb u7 n w B xb iw ii im) := HX4.out.below hb5
              have c1 := HX5.out.c1
              have c2 := HX5.out.c2
              clear hrun hb5
              go_wp2_with fail
              refine (href _ HX5.out).mono ?_
              rintro r w6 ⟨rfl, hw6⟩
              subst hw6
              clear href c1 c2
              go_wp2_with fail
              refine (same_any (w := w6) (C := sb + 1) (.pointer (some ⟨sb, 0, none⟩)) u7 n B (.inr ⟨sb, rfl, HX5.out.play.set⟩) HX5.out.play.row).mono ?_
              rintro r w9 ⟨rfl, hb9⟩
              have HP9 : Hid (PlayAt w9 sb u7 n w B) := HX5.out.play.below hb9
              clear hb9
              go_wp2
              go_roundw
              case rel => exact ⟨k + 1, _, ⟨by omega, by omega⟩, by go_num, HP9.out⟩
              case measure => simp [intOf]; omega
            | some at_ =>
              rw [hg] at href hrun
              rw [show optN (some at_) = .tuple #[.int .i64 at_, .bool true] from rfl] at hrun
              dsimp only at href
              clear hg
              go_wp2_with fail
              rw [← hw4, ← hxb]
              clear hw4 hxb hlb i0 i1 i2
              refine (hrun _ HX4.out).mono ?_
              rintro r w5 ⟨rfl, hb5⟩
              have HX5 : Hid (PX w5 sb u7 n w B xb iw ii im) := HX4.out.below hb5
              have c1 := HX5.out.c1
              have c2 := HX5.out.c2
              clear hrun hb5
              go_wp2_with fail
              refine (href _ HX5.out).mono ?_
              rintro r w6 ⟨rfl, hw6⟩
              subst hw6
              clear href c1 c2
              have hge : (0 : Int) ≤ (at_ : Int) := by omega
              go_wp2_with fail
              refine (same_any (w := w6) (C := sb + 1) (.pointer (some ⟨sb, 0, none⟩)) u7 n B (.inr ⟨sb, rfl, HX5.out.play.set⟩) HX5.out.play.row).mono ?_
              rintro r w9 ⟨rfl, hb9⟩
              have HP9 : Hid (PlayAt w9 sb u7 n w B) := HX5.out.play.below hb9
              clear hb9
              go_wp2
              go_roundw
              case rel => exact ⟨k + 1, _, ⟨by omega, by omega⟩, by go_num, HP9.out⟩
              case measure => simp [intOf]; omega
          · have hA2 : ((wrap64 (iw.tmod 4 + 4)).tmod 4 == 2) = false := by simpa using hA
            have hA3' : ((wrap64 (iw.tmod 4 + 4)).tmod 4 == 3) = false := by simpa using hA3
            clear hA hA3

            have hmay := fun (W : World) (h : PX W sb u7 n w B xb iw ii im) => may_any (w := W) (B := sb + 1) u7 n (tk B) ii im false h.play.row (by omega) (by omega)
            have hturn := fun (W : World) (h : PX W sb u7 n w B xb iw ii im) => take_any (.pointer (some ⟨sb, 0, none⟩)) n B ii im W (.inr ⟨sb, rfl, h.play.set⟩) (by omega)
            rw [show mayF n (tk B) ii im false = turnE n B ii im false 9 from mayF_turn n B ii im false] at hmay
            by_cases hz : turnE n B ii im false 9 = 0
            · rw [hz] at hmay
              have HIN : Hid (∃ p q : Nat, ii = p ∧ im = q ∧ p + q ≤ n ∧ 1 ≤ q) := turn_in (by decide) hz
              have HZ : Hid (turnE n B ii im false 9 = 0) := hz
              clear hz
              go_wp2_with fail
              rw [← hw4, ← hxb]
              clear hw4 hxb hlb i0 i1 i2
              refine (hmay _ HX4.out).mono ?_
              rintro r w5 ⟨rfl, hw5⟩
              subst hw5
              clear hmay
              have c1 := HX4.out.c1
              have c2 := HX4.out.c2
              go_wp2_with fail
              refine (hturn _ HX4.out).mono ?_
              rintro r w6 ⟨rfl, _, hyes⟩
              rw [HZ.out]
              obtain ⟨b', hb', hS6, hU6⟩ := hyes HZ.out
              cases hb'
              obtain ⟨p, q, rfl, rfl, hpq, hq1⟩ := HIN.out
              rw [Int.toNat_natCast, Int.toNat_natCast] at hS6
              have HU6 : Hid (Upd sb w5 w6) := hU6
              have HS6 : Hid (SetAt w6 sb n (flipsB B p q)) := hS6
              have HL6 : Hid (Below w.heap.size w w6) := HX4.out.play.low.trans (hU6.below HSB.out HX4.out.play.low.size)
              have HR6 : Hid (RowB w6 (sb + 1) u7 n (tk B)) := HX4.out.play.row.upd hU6 (by omega)
              have HX6 : Hid (w6.heap[xb]? = some (.cells #[.int .i64 iw, .int .i64 p, .int .i64 q] 32 (0, 0))) := (hU6.block xb (lt_of_heap HX4.out.x) (Ne.symm HX4.out.ne)).trans HX4.out.x
              clear hturn hyes hS6 hU6 c1 c2
              go_wp2_with fail
              refine (code_any 0 w6 (HE.out.below HL6.out HE.out.lt)).mono ?_
              rintro r w7 ⟨rfl, hb7⟩
              have HS7 : Hid (SetAt w7 sb n (flipsB B p q)) := HS6.out.below hb7 (Nat.le_refl _)
              have HL7 : Hid (Below w.heap.size w w7) := HL6.out.trans (hb7.mono HL6.out.size)
              have HR7 : Hid (RowB w7 (sb + 1) u7 n (tk B)) := row_below' HR6.out hb7 (Nat.le_refl _)
              have HX7 : Hid (w7.heap[xb]? = some (.cells #[.int .i64 iw, .int .i64 p, .int .i64 q] 32 (0, 0))) := (hb7.block _ (lt_of_heap HX6.out)).trans HX6.out
              have c1 := cell_of_heap HX7.out 1 _ rfl
              have c2 := cell_of_heap HX7.out 2 _ rfl
              clear hb7
              go_wp2_with fail
              refine (turned_any (w := w7) (B := sb + 1) u7 n (tk B) p q HR7.out (by omega) hpq hq1).mono ?_
              rintro r w8 ⟨rv8, rfl, hR8, hb8⟩
              have HP8 : Hid (PlayAt w8 sb rv8 n w (flipsB B p q)) := by
                have h7 : sb < w7.heap.size := by obtain ⟨_, h, _⟩ := HS7.out; exact lt_of_heap h
                rw [turnF_tk] at hR8
                exact ⟨HS7.out.below hb8 (Nat.le_refl _), RowB.lower hR8 (by omega), bey_flips hpq HX4.out.play.bey, HL7.out.trans (hb8.mono HL7.out.size)⟩
              clear hR8 hb8 c1 c2
              go_wp2_with fail
              refine (same_any (w := w8) (C := sb + 1) (.pointer (some ⟨sb, 0, none⟩)) rv8 n (flipsB B p q) (.inr ⟨sb, rfl, HP8.out.set⟩) HP8.out.row).mono ?_
              rintro r w9 ⟨rfl, hb9⟩
              have HP9 : Hid (PlayAt w9 sb rv8 n w (flipsB B p q)) := HP8.out.below hb9
              clear hb9
              go_wp2
              go_roundw
              case rel => exact ⟨k + 1, _, ⟨by omega, by omega⟩, by go_num, HP9.out⟩
              case measure => simp [intOf]; omega
            · have HZ : Hid (turnE n B ii im false 9 ≠ 0) := hz
              clear hz
              obtain ⟨f, hf⟩ : ∃ f, turnE n B ii im false 9 = f := ⟨_, rfl⟩
              rw [hf] at HZ hmay
              have hfb : (f == 0) = false := by simpa using HZ.out
              have HF : Hid (turnE n B ii im false 9 = f) := hf
              clear hf
              go_wp2_with fail
              rw [← hw4, ← hxb]
              clear hw4 hxb hlb i0 i1 i2
              refine (hmay _ HX4.out).mono ?_
              rintro r w5 ⟨rfl, hw5⟩
              subst hw5
              clear hmay
              have c1 := HX4.out.c1
              have c2 := HX4.out.c2
              go_wp2_with fail
              refine (hturn _ HX4.out).mono ?_
              rintro r w6 ⟨rfl, hno, _⟩
              rw [HF.out] at hno ⊢
              have HX6 : Hid (PX w6 sb u7 n w B xb iw ii im) := HX4.out.below (hno HZ.out)
              clear hturn hno c1 c2
              go_wp2_with fail
              refine (code_any f w6 (HE.out.below HX6.out.play.low HE.out.lt)).mono ?_
              rintro r w7 ⟨rfl, hb7⟩
              have HX7 : Hid (PX w7 sb u7 n w B xb iw ii im) := HX6.out.below hb7
              clear hb7
              go_wp2_with fail
              refine (same_any (w := w7) (C := sb + 1) (.pointer (some ⟨sb, 0, none⟩)) u7 n B (.inr ⟨sb, rfl, HX7.out.play.set⟩) HX7.out.play.row).mono ?_
              rintro r w9 ⟨rfl, hb9⟩
              have HP9 : Hid (PlayAt w9 sb u7 n w B) := HX7.out.play.below hb9
              clear hb9
              go_wp2
              go_roundw
              case rel => exact ⟨k + 1, _, ⟨by omega, by omega⟩, by go_num, HP9.out⟩
              case measure => simp [intOf]; omega
    · have hend : (k : Int) < (len : Int) → ¬ (k : Int) < 40 := fun h1 h2 => hlt ⟨by omega, by omega⟩
      clear hlt HI0
      have hsm : ∀ j, B j < 256 := by obtain ⟨_, _, h⟩ := HP.out.set; exact h.small
      have HSM : Hid (∀ j, B j < 256) := hsm
      clear hsm
      by_cases hA : (k : Int) < (len : Int)
      all_goals
        go_wp2_with fail
        refine (put_any sb n B wr HP.out.set (HN.out.below HP.out.low)).mono ?_
        rintro r w4 ⟨rfl, hb4⟩
        have HP4 : Hid (PlayAt w4 sb u7 n w B) := HP.out.below hb4
        have HOB : Hid (openF 5 (sealS 5 (bodyS B)) = (bodyS B, 0)) := open_body B
        have hget := get_yes (w := w4) (sealS 5 (bodyS B)) (bodyS B) n (HN.out.below HP4.out.low) (by rw [decide_eq_true (by omega), decide_eq_true (by omega)]; rfl) HOB.out (bodyS_size B)
        have hput := fun (W : World) (h : PlayAt W sb u7 n w B) => refput_any (w := W) (C := sb + 1) u7 n B h.row (by omega) HSM.out (fun i h1 h2 => beyB_free h.bey i h1 h2)
        have hz : (sealS 5 (bodyS B)).size = 512 := Mk.sealS_size (by decide) (by decide) (by rw [bodyS_size]; decide)
        generalize sealS 5 (bodyS B) = ss at *
        clear hb4 hend hA
        go_wp2_with fail
        refine hget.mono ?_
        rintro r w5 ⟨_, hyes, hb5⟩
        obtain ⟨ub, rfl, hU⟩ := hyes ((bey_body B HSM.out n).trans HP4.out.bey)
        have HP5 : Hid (PlayAt w5 sb u7 n w B) := HP4.out.below hb5
        have HU5 : Hid (SetAt w5 ub n (strB (bodyS B))) := hU
        clear hget hyes hb5 hU
        go_wp2_with fail
        refine (hput _ HP5.out).mono ?_
        rintro r w6 ⟨rfl, hb6⟩
        have HP6 : Hid (PlayAt w6 sb u7 n w B) := HP5.out.below hb6
        have HU6 : Hid (SetAt w6 ub n (strB (bodyS B))) := HU5.out.below hb6 (Nat.le_refl _)
        clear hput hb6
        go_wp2_with fail
        refine (same_any (w := w6) (C := sb + 1) (.pointer (some ⟨ub, 0, none⟩)) u7 n (strB (bodyS B)) (.inr ⟨ub, rfl, HU6.out⟩) (HP6.out.row.congr (fun i hi => (tk_body B HSM.out i (by omega)).symm))).mono ?_
        rintro r w7 ⟨rfl, hb7⟩
        have HP7 : Hid (PlayAt w7 sb u7 n w B) := HP6.out.below hb7
        clear hb7
        go_wp2
        go_ret
        exact ⟨rfl, HP7.out.low⟩

theorem bitsPlays_calls {H : Type} {enc : TypeId × Value → H} {sp : Nat → Bool} {held : Bool} {d : DataW H} {p : List MemPlace} (n : Int) (a : Option Addr) (len cap : Nat) (w : World) (_ : (Lit.int .i64 n).wf = true)
    (h : DataW.Trod enc Tryd.prog w 0 sp held 22 (.slice a len cap) d p) (hE : ErrT w) (hN : NibAt w) :
    Calls Tryd.prog 3 #[.int .i64 n, .slice a len cap] w fun e w' => e = .returned (.bool true) ∧ Below w.heap.size w w' := by
  obtain ⟨L, hI, _⟩ := items_of_trod h
  exact bitsPlays_walk n a len cap L w hI hE hN

end Go.Proofs.YtkflhakgfpiiaaaDoor.Bt
