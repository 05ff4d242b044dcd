/-
  The statement on spoilt sectors, as a walk. Condition: the table of four steps holds what its initialiser lays.
-/
import Derived.Test.YtiaigboichmepabDoorSlApart
import Derived.Test.YtiaigboichmepabDoorSlSpM
import Derived.Lib.ConvBytes
namespace Go.Proofs.YtiaigboichmepabDoor.Mk
open Go.ChangeShapes Go.WideShapes Go.ChangeAt Go.RowKit Go.Lib
open Go.Proofs.YtiaigboichmepabDoor.Le (ret_int streq_yes streq_no byteAt tmod_fix)

theorem bytesWorld_below (w : World) (e : TypeId) (s : ByteArray) : Below w.heap.size w (bytesWorld w e s) := by
  refine ⟨rfl, rfl, rfl, ?_, ?_⟩
  · rw [bytesWorld_size]; omega
  · intro j hj; exact bytesWorld_at_old w e s j hj

theorem bytesWorld_frozen (w : World) (e : TypeId) (s : ByteArray) (j : Nat) (hj : j < s.size) : (bytesWorld w e s).frozen? ⟨w.heap.size, j, none⟩ = false := by
  have : (bytesCells w e s).size ≥ s.size := by simp [bytesCells]
  simp [World.frozen?, bytesWorld_at_new]
  omega

/-- The bytes lie in block g, of which k are changed. -/
def Row (wr : World) (g : Nat) (s : ByteArray) (a : Nat) (h : Int) (k : Nat) : Prop :=
  ∀ j, j < 512 → wr.cell? ⟨g, j, none⟩ = some (.int .u8 ((tb s a h k j).toNat : Int)) ∧ wr.frozen? ⟨g, j, none⟩ = false

theorem Row.below {w w' : World} {g : Nat} {s : ByteArray} {a : Nat} {h : Int} {k : Nat} (hr : Row w g s a h k) (hb : Below w.heap.size w w') (hg : g < w.heap.size) : Row w' g s a h k := fun j hj =>
  ⟨(hb.cell (p := ⟨g, j, none⟩) hg).trans (hr j hj).1, (hb.frozen (p := ⟨g, j, none⟩) hg).trans (hr j hj).2⟩

theorem Row.text {wr : World} {g : Nat} {s : ByteArray} {a : Nat} {h : Int} {k : Nat} (hr : Row wr g s a h k) (cap : Nat) :
    Sem.run Tryd.prog (convert 35 9 (.slice (some ⟨g, 0, none⟩) 512 cap)) wr = .ok (.string (tS s a h k)) wr := by
  have e : ((List.range 512).map (tb s a h k)).length = 512 := by rw [List.length_map, List.length_range]
  have := run_convert_bytes_back (P := Tryd.prog) wr 35 9 5 ⟨g, 0, none⟩ cap ((List.range 512).map (tb s a h k)) Tryd.underlying35 Tryd.underlying5 Tryd.underlying9 (by
    intro j hj
    rw [e] at hj
    have hc := (hr j hj).1
    rw [List.getElem_map, List.getElem_range, Addr.add_lit, Nat.zero_add]
    exact hc)
  rw [e] at this
  exact this

theorem tb_xor (s : ByteArray) (a : Nat) (h : Int) (k : Nat) : bits .xor .u8 ((tb s a h k (a + k)).toNat : Int) (h / 2 ^ (8 * k) % 256) = ((tb s a h (k + 1) (a + k)).toNat : Int) := by
  rw [tb_same rfl, UInt8.toNat_xor, ← u8_xor_nat _ _ (UInt8.toNat_lt _) (UInt8.toNat_lt _), xb_nat]
  rfl

theorem xb_zero (h : Int) (k : Nat) : (h / 2 ^ (8 * k) % 256 != 0) = (xb h k != 0) := by
  have e := xb_nat h k
  unfold byteAt at e
  rw [← e]
  by_cases hx : xb h k = 0
  · rw [hx]; rfl
  · have : (xb h k).toNat ≠ 0 := fun h0 => hx (UInt8.toNat_inj.1 h0)
    rw [bne_iff_ne.2 hx]
    simp; omega

theorem Row.step {wr : World} {g : Nat} {s : ByteArray} {a : Nat} {h : Int} {n : Nat} (hr : Row wr g s a h n) : Row (wr.setCell ⟨g, a + n, none⟩ (.int .u8 ((tb s a h (n + 1) (a + n)).toNat : Int))) g s a h (n + 1) := by
  intro j hj
  refine ⟨?_, by rw [World.frozen?_setCell]; exact (hr j hj).2⟩
  by_cases e : j = a + n
  · subst e
    rw [World.cell?_setCell_same _ _ _ (hr _ hj).1]
  · rw [World.cell?_setCell_other _ _ _ _ (by intro h; simp only [Addr.mk.injEq] at h; omega), (hr j hj).1, tb_other e]

set_option maxRecDepth 100000 in
set_option maxHeartbeats 1000000 in
theorem markSpoilt_calls (kd : Int) (body : ByteArray) (h0 h1 : Int) (w : World) (_ : (Lit.int .i64 kd).wf = true) (_ : body.size ≤ maxLen) (hn : NibAt w) :
    Calls Tryd.prog 6 #[.int .i64 kd, .string body, .agg #[.int .i64 h0, .int .i64 h1]] w fun e w' => e = .returned (.bool true) ∧ Below w.heap.size w w' := by
  have HN : Hid (NibAt w) := hn
  clear hn
  obtain ⟨mx, k, ex, ex2, ex3, hk1, hk2⟩ := kind127 kd
  obtain ⟨la, ea, hla, hl5, HA⟩ := cut504 body
  have HX : Hid (NibAt (w.alloc (.cells #[.int .i64 h0, .int .i64 h1] 37))) := HN.out.below ((Below.refl _ _).alloc (Nat.le_refl _) _)
  have hb5 : (body.extract 0 la).size ≤ 504 := by rw [HA.out]; exact hl5
  have hz := sealS_size (body := body.extract 0 la) hk1 hk2 hb5
  have HSU : Hid (sumOk (sealS k (body.extract 0 la))) := seal_sum hk1 hk2 hb5
  have HSO : Hid (openF k (sealS k (body.extract 0 la)) = (padS (body.extract 0 la), 0)) := open_seal hk1 hk2 hb5
  have HSK : Hid (kindF (sealS k (body.extract 0 la)) = k) := seal_kindF hk1 hk2 hb5
  clear HA
  go_enter Tryd.func6, Tryd.ntmps6
  go_wp2_with fail
  refine (speaks_any _ HX.out).mono ?_
  rintro e w1 ⟨rfl, hb1⟩
  have HB1 : Hid (Below w.heap.size w w1) := ((Below.refl _ _).alloc (Nat.le_refl _) _).trans (hb1.mono (by simp))
  have c0 : w1.cell? ⟨w.heap.size, 0, none⟩ = some (.int .i64 h0) := (hb1.cell (p := ⟨w.heap.size, 0, none⟩) (by simp)).trans (by simp)
  have c1 : w1.cell? ⟨w.heap.size, 1, none⟩ = some (.int .i64 h1) := (hb1.cell (p := ⟨w.heap.size, 1, none⟩) (by simp)).trans (by simp)
  have hlt : w.heap.size < w1.heap.size := by have := hb1.size; simp at this; omega
  have HN1 : Hid (NibAt w1) := HN.out.below HB1.out
  clear hb1
  go_wp2_with fail
  refine (seal_yes k _ _ hk1 hk2 hb5 HN1.out).mono ?_
  rintro e w2 ⟨rfl, hb2⟩
  have HB2 : Hid (Below w.heap.size w w2) := HB1.out.trans (hb2.mono HB1.out.size)
  have hlt2 : w.heap.size < w2.heap.size := by have := hb2.size; omega
  have d0 : w2.cell? ⟨w.heap.size, 0, none⟩ = some (.int .i64 h0) := (hb2.cell (p := ⟨w.heap.size, 0, none⟩) hlt).trans c0
  have d1 : w2.cell? ⟨w.heap.size, 1, none⟩ = some (.int .i64 h1) := (hb2.cell (p := ⟨w.heap.size, 1, none⟩) hlt).trans c1
  clear hb2 c0 c1 hb5
  generalize sealS k (body.extract 0 la) = s at *
  have hcv := Lib.run_convert_string_bytes (P := Tryd.prog) w2 9 35 5 s Tryd.underlying9 Tryd.underlying35 Tryd.underlying5
  have HW : Hid (Below w2.heap.size w2 (bytesWorld w2 5 s)) := bytesWorld_below _ _ _
  have f0 : (bytesWorld w2 5 s).cell? ⟨w.heap.size, 0, none⟩ = some (.int .i64 h0) := (HW.out.cell (p := ⟨w.heap.size, 0, none⟩) hlt2).trans d0
  have f1 : (bytesWorld w2 5 s).cell? ⟨w.heap.size, 1, none⟩ = some (.int .i64 h1) := (HW.out.cell (p := ⟨w.heap.size, 1, none⟩) hlt2).trans d1
  have HR : Hid (∀ a, Row (bytesWorld w2 5 s) w2.heap.size s a h1 0) := fun a j hj => ⟨by rw [tb_zero]; exact bytesWorld_cell _ _ _ j (by omega), bytesWorld_frozen _ _ _ j (by omega)⟩
  have HB3 : Hid (Below w.heap.size w (bytesWorld w2 5 s)) := HB2.out.trans (HW.out.mono HB2.out.size)
  have hz3 : (bytesWorld w2 5 s).heap.size = w2.heap.size + 1 := bytesWorld_size _ _ _
  generalize grownCap w2 s.size 0 5 = cap at *
  generalize bytesWorld w2 5 s = w3 at *
  have ht := tmod_fix h0 512 (by decide) (by decide)
  obtain ⟨a, ha, hal⟩ : ∃ a : Nat, (wrap64 (h0.tmod 512 + 512)).tmod 512 = (a : Int) ∧ a < 512 := ⟨(h0 % 512).toNat, by rw [ht]; omega, by omega⟩
  clear ht
  have hgw : w.heap.size < w2.heap.size := hlt2
  have hg3 : w2.heap.size < w3.heap.size := by omega
  generalize w2.heap.size = g at *
  clear hlt2 hz3 HW d0 d1
  go_wp2
  go_loopw [11, 12] (fun c i wr => ∃ n : Nat, n ≤ 4 ∧ a + n ≤ 512 ∧ i = .int .i64 n ∧ c = .bool (chB h1 n) ∧ Row wr g s a h1 n ∧ Below w.heap.size w wr ∧ wr.cell? ⟨w.heap.size, 1, none⟩ = some (.int .i64 h1) ∧ g < wr.heap.size) (fun _ i _ => 4 - (intOf i).toNat)
  case atStart => exact ⟨0, by omega, by omega, rfl, rfl, HR.out a, HB3.out, f1, hg3⟩
  case round =>
    obtain ⟨n, hn4, hn5, rfl, rfl, hrow, hbr, e1, hgr⟩ := hrel
    have HRow : Hid (Row wr g s a h1 n) := hrow
    have HBr : Hid (Below w.heap.size w wr) := hbr
    have HG : Hid (g < wr.heap.size) := hgr
    clear hrow hbr hgr
    by_cases hc : n < 4 ∧ a + n < 512
    · obtain ⟨hc1, hc2⟩ := hc
      have q1 := (HRow.out (a + n) hc2).1
      have q2 := (HRow.out (a + n) hc2).2
      have q3 := tb_xor s a h1 n
      have q4 : ((a : Int) + n).toNat = a + n := by omega
      have q5 := xb_zero h1 n
      have HC : Hid (chB h1 (n + 1) = (chB h1 n || (xb h1 n != 0))) := rfl
      generalize hxv : (xb h1 n != 0) = xv at *
      generalize hcv2 : chB h1 n = cv at *
      have HST : Hid (Row (wr.setCell ⟨g, a + n, none⟩ (.int .u8 ((tb s a h1 (n + 1) (a + n)).toNat : Int))) g s a h1 (n + 1)) := HRow.out.step
      clear hxv hcv2
      cases cv
      all_goals
        go_wp2
        go_roundw
        case rel => exact ⟨n + 1, by omega, by omega, by go_num, by rw [HC.out]; rfl, HST.out, HBr.out.setCell (by simp; omega) _, by rw [World.cell?_setCell_other _ _ _ _ (by intro h; simp only [Addr.mk.injEq] at h; omega)]; exact e1, by simpa using HG.out⟩
        case measure => simp [intOf]; omega
    · have HNr : Hid (NibAt wr) := HN.out.below HBr.out
      have HZT : Hid (∀ W : World, Below wr.heap.size wr W → Sem.run Tryd.prog (convert 35 9 (.slice (some ⟨g, 0, none⟩) 512 cap)) W = .ok (.string (tS s a h1 n)) W) := fun W hb => (HRow.out.below hb HG.out).text cap
      have hcr := HZT.out wr (Below.refl _ _)
      have hcase : (chB h1 n = false ∧ openF k (tS s a h1 n) = (padS (body.extract 0 la), 0) ∧ kindF (tS s a h1 n) = k) ∨ (chB h1 n = true ∧ (openF k (tS s a h1 n)).2 ≠ 0 ∧ kindF (tS s a h1 n) = 0) := by
        cases hch : chB h1 n with
        | false => exact .inl ⟨rfl, by rw [tS_same hz hch]; exact HSO.out, by rw [tS_same hz hch]; exact HSK.out⟩
        | true =>
          have hsp := tS_spoilt hz HSU.out (a := a) hn5 hn4 hch
          refine .inr ⟨rfl, openF_spoilt hsp, ?_⟩
          unfold kindF
          rw [if_pos (tS_size _ _ _ _), if_neg (openF_spoilt hsp)]
      have HCA : Hid (n < 4 → ¬ a + n < 512) := fun h1 h2 => hc ⟨h1, h2⟩
      clear hc
      generalize tS s a h1 n = T at *
      rcases hcase with ⟨k1, k2, k3⟩ | ⟨k1, k2, k3⟩
      · have K2 : Hid (openF k T = (padS (body.extract 0 la), 0)) := k2
        have K3 : Hid (kindF T = k) := k3
        rw [k1]
        clear k2 k3
        have hkz : (k == 0) = false := by simp; omega
        by_cases hc1 : n < 4
        all_goals
          have hc2 : (n < 4 → ¬ ((a : Int) + n < 512)) := fun h => by have := HCA.out h; omega
          go_wp2_with fail
          refine (openM_any _ _ _ HNr.out).mono ?_
          rintro e w4 ⟨rfl, hb4⟩
          rw [K2.out, errV_zero]
          have HN4 : Hid (NibAt w4) := HNr.out.below hb4
          have hcr4 := HZT.out w4 hb4
          have HB4 : Hid (Below w.heap.size w w4) := HBr.out.trans (hb4.mono HBr.out.size)
          clear hb4
          go_wp2_with fail
          refine (kindM_any _ _ HN4.out).mono ?_
          rintro e w5 ⟨rfl, hb5⟩
          rw [K3.out]
          go_wp2
          go_ret
          exact ⟨rfl, HB4.out.trans (hb5.mono HB4.out.size)⟩
      · have K2 : Hid ((openF k T).2 ≠ 0) := k2
        have K3 : Hid (kindF T = 0) := k3
        rw [k1]
        clear k2 k3
        by_cases hc1 : n < 4
        all_goals
          have hc2 : (n < 4 → ¬ ((a : Int) + n < 512)) := fun h => by have := HCA.out h; omega
          go_wp2_with fail
          refine (openM_any _ _ _ HNr.out).mono ?_
          rintro e w4 ⟨rfl, hb4⟩
          rw [errV_pos K2.out]
          have HN4 : Hid (NibAt w4) := HNr.out.below hb4
          have hcr4 := HZT.out w4 hb4
          have HB4 : Hid (Below w.heap.size w w4) := HBr.out.trans (hb4.mono HBr.out.size)
          clear hb4
          go_wp2_with fail
          refine (kindM_any _ _ HN4.out).mono ?_
          rintro e w5 ⟨rfl, hb5⟩
          rw [K3.out]
          go_wp2
          go_ret
          exact ⟨rfl, HB4.out.trans (hb5.mono HB4.out.size)⟩

end Go.Proofs.YtiaigboichmepabDoor.Mk
