/-
  The first one is inside all along: what the law answers. No condition.
-/
import Derived.Test.YtmapaplpoogpfaaHdSp
import Derived.Test.YtmapaplpoogpfaaHdN
import Derived.Test.YtmapaplpoogpfaaHdActs
namespace Go.Proofs.Ytmapaplpoogpfaa.Hd
open Go.ChangeShapes Go.WideShapes Go.ChangeAt Go.RowKit Go.Proofs.Fa
open Go.Proofs.Ytmapaplpoogpfaa.Hdi
open Go.Maps (Keyed int_keyed keyOf_int_mk)
open Go.Proofs.Ytmapaplpoogpfaa.Nv (Turn Grow lt_of_heap lt_of_cell cell_of_heap free_of_heap icells scells icells_one scells_one CellsAt)

set_option maxRecDepth 100000
set_option maxHeartbeats 16000000

/-- The law under way: the holds at w1's end, the law's map behind them. -/
structure NevAt (w1 wr : World) (s : HS Int) (r : List Int) (n c : Nat) : Prop where
  play : PlayX (fun q => q < w1.heap.size ∨ q = w1.heap.size + 1) w1 wr w1.heap.size s
  inn : InIs wr (w1.heap.size + 1) n r
  nev : Nev s r c
theorem NevAt.hlt {w1 wr : World} {s : HS Int} {r : List Int} {n c : Nat} (h : NevAt w1 wr s r n c) (q : Nat) (hq : q < w1.heap.size ∨ q = w1.heap.size + 1) : q < wr.heap.size := by
  rcases hq with hq | hq
  · have := h.play.bel.size; omega
  · subst hq; exact h.inn.lt
theorem NevAt.rlen {w1 wr : World} {s : HS Int} {r : List Int} {n c : Nat} (h : NevAt w1 wr s r n c) : r.length ≤ 1000 := by
  have hok := h.play.ok
  have hone : ∀ (m : List Int) (lo hi : Int), m.Pairwise (· < ·) → (∀ t ∈ m, lo ≤ t ∧ t ≤ hi) → (m.length : Int) ≤ max 0 (hi - lo + 1) := by
    intro m
    induction m with
    | nil => intro lo hi _ _; simp only [List.length_nil]; omega
    | cons x r ih =>
      intro lo hi hp hb
      obtain ⟨h1, h2⟩ := List.pairwise_cons.1 hp
      have hx := hb x (List.mem_cons_self ..)
      have := ih (x + 1) hi h2 (fun t ht => ⟨by have := h1 t ht; omega, (hb t (List.mem_cons_of_mem _ ht)).2⟩)
      simp only [List.length_cons]
      omega
  have h1 := hone s.m 1 s.last hok.asc (fun t ht => (hok.inn t ht).2)
  rw [h.nev.m, List.length_cons] at h1
  have h2 := hok.lastB
  have h3 := hok.last0
  omega
theorem NevAt.asc {w1 wr : World} {s : HS Int} {r : List Int} {n c : Nat} (h : NevAt w1 wr s r n c) : (1 :: r).Pairwise (· < ·) := nev_asc h.nev h.play.ok
/-- The law's own map is turned. -/
theorem PlayX.mapped {w1 wr w' : World} {s : HS Int} (h : PlayX (fun q => q < w1.heap.size ∨ q = w1.heap.size + 1) w1 wr w1.heap.size s) (hg : wr.grownBy w' (some (w1.heap.size + 1))) : PlayX (fun q => q < w1.heap.size ∨ q = w1.heap.size + 1) w1 w' w1.heap.size s :=
  (h.turned (S' := fun q => q = w1.heap.size + 1) (Turn.grown hg (fun g e => by injection e with e; exact e.symm)) (fun q e => .inr e) (fun q e => by subst e; omega)).mono (fun q hq => .inl hq)

theorem ranges_keep {H : Type} {P : Program} {k : TypeId} {R : Value → Option (DataW H × List MemPlace)} {w w' : World} {b r n : Nat} {D : DataW H} {left : Lit → Bool} {cnt : Nat} (h : w.ranges P k R b r n D left cnt) (hb : w'.heap[b]? = w.heap[b]?) (hr : w'.heap[r]? = w.heap[r]?) : w'.ranges P k R b r n D left cnt := by
  obtain ⟨es, clock, since, seen, c0, h1, h2, h3, h4, h5, h6⟩ := h
  exact ⟨es, clock, since, seen, c0, hb.trans h1, h2, h3, h4, hr.trans h5, h6⟩
theorem invK (key : Value) (kl : Lit) (h : keyOf Try.prog 3 key = some kl) : ∃ x, key = Value.int .i64 x := by
  obtain ⟨x, rfl, _⟩ := Maps.keyOf_int_inv Try.underlying3 h
  exact ⟨x, rfl⟩
theorem invV (v : Value) (y : DataW Unit × List MemPlace) (h : plainElem Try.prog 4 v = some y) : ∃ c : Nat, v = Value.bool (c == 0) := by
  unfold plainElem at h
  rw [Try.underlying4] at h
  cases v <;> simp at h
  rename_i x
  cases x
  · exact ⟨1, rfl⟩
  · exact ⟨0, rfl⟩

theorem holdNever_calls {H : Type} {enc : TypeId × Value → H} {sp : Nat → Bool} {held : Bool} {d : DataW H} {p : List MemPlace} (a : Option Addr) (len cap : Nat) (w : World)
    (ht : DataW.Trod enc Try.prog w 0 sp held 22 (.slice a len cap) d p) :
    Calls Try.prog 4 #[.slice a len cap] w fun e w' => e = .returned (.bool true) ∧ Below w.heap.size w w' := by
  obtain ⟨L, hL, hlm⟩ := acts_of_trod ht
  have HL : Hid (ActsAt w a len L) := hL
  have hmm := @run_makeMap Try.prog
  clear ht hL
  go_enter Try.func4, Try.ntmps4
  go_wp2_with fail
  refine (Hds.speaks_any w).mono ?_
  rintro e w1 ⟨rfl, hb1⟩
  have HB1 : Hid (Below w.heap.size w w1) := hb1
  clear hb1
  obtain ⟨W0, hW0⟩ : ∃ W0, W0 = w1.alloc (Obj.cells #[.int .i64 0, .map none, .int .i64 0, .slice none 0 0] 27) := ⟨_, rfl⟩
  have hs0 : W0.heap.size = w1.heap.size + 1 := by rw [hW0, World.size_alloc]
  have hp0 : PlayX (fun q => q < w1.heap.size ∨ q = w1.heap.size + 1) w1 (W0.alloc (.map #[] 0)) w1.heap.size (⟨0, [], 0, []⟩ : HS Int) := by
    have h0 := PlayX.new w1
    rw [← hW0] at h0
    exact (h0.below ((Below.refl _ W0).alloc (Nat.le_refl _) (.map #[] 0))).mono (fun q hq => hq.imp id (fun e => by omega))
  have hin0 : InIs (W0.alloc (.map #[] 0)) (w1.heap.size + 1) 0 [] := by
    have := InIs.made W0
    rw [hs0] at this
    exact this
  have hE := x_enter hp0 (by decide) (fun q hq => by rw [World.size_alloc]; omega)
  rw [hW0] at hE
  go_wp2_with fail
  refine hE.mono ?_
  rintro e w2 ⟨rfl, h2, k2⟩
  clear hE
  rw [hW0] at hin0
  have hin2 := hin0.keep (k2.2 _ (.inr rfl) hin0.lt)
  have hD := x_drop1 h2 (by decide) (-1) (by decide) (fun q hq => by
    rcases hq with hq | hq
    · have := h2.bel.size; omega
    · subst hq; exact hin2.lt)
  clear h2 hin0 hp0 hW0 hs0
  go_wp2_with fail
  refine hD.mono ?_
  rintro e w3 ⟨rfl, h3, k3⟩
  clear hD hmm
  have HO3 : Hid (NevAt w1 w3 (dropF (enterF (⟨0, [], 0, []⟩ : HS Int)) [-1]) [] 0 1) :=
    ⟨h3, hin2.keep (k3.2 _ (.inr rfl) hin2.lt), ⟨rfl, rfl, rfl, (fun d hd => by
      have e : d = (-1, 1) := by simpa [dropF, enterF] using hd
      subst e; decide), (fun d hd => by
      have e : d = (-1, 1) := by simpa [dropF, enterF] using hd
      subst e; decide)⟩⟩
  clear h3 k3 hin2 k2
  go_wp2_with fail
  go_loopw [5, 6, 8] (fun dv fv iv wr => ∃ (k n : Nat) (s : HS Int) (r : List Int), k ≤ len ∧ k ≤ 60 ∧ iv = .int .i64 k ∧ dv = .int .i64 n ∧ fv = .int .i64 0 ∧ n ≤ k ∧ s.last ≤ k + 1 ∧ NevAt w1 wr s r k (n + 1)) (fun _ _ iv _ => 60 - (intOf iv).toNat)
  case atStart => exact ⟨0, 0, _, [], Nat.zero_le _, Nat.zero_le _, rfl, rfl, rfl, Nat.zero_le _, by decide, HO3.out⟩
  case round =>
    obtain ⟨k, n, s, r, hk, hk60, rfl, rfl, rfl, hnk, hls, ho⟩ := hrel
    have HO : Hid (NevAt w1 wr s r k (n + 1)) := ho
    have HLS : Hid (s.last ≤ k + 1) := hls
    clear ho hls
    by_cases hlt : k < len ∧ k < 60
    · obtain ⟨hlt1, hlt2⟩ := hlt
      obtain ⟨b0, off0, ha0, hbl0, hc0⟩ : ∃ b off, a = some ⟨b, off, none⟩ ∧ b < w.heap.size ∧ ∀ i, i < len → ActCells w b (off + i * 3) (L i) := by
        rcases HL.out.1 with h | h
        · omega
        · exact h
      subst ha0
      obtain ⟨ck0, ck1, _⟩ := (hc0 k hlt1).below (HB1.out.trans (HO.out.play.bel.mono HB1.out.size)) hbl0
      have hwf := (HL.out.2 k hlt1).2.1
      clear hc0
      obtain ⟨xw, hxw⟩ : ∃ xw, (L k).what = xw := ⟨_, rfl⟩
      obtain ⟨xt, hxt⟩ : ∃ xt, (L k).ticket = xt := ⟨_, rfl⟩
      rw [hxw] at ck0
      rw [hxt] at ck1 hwf
      have hxtb : -9223372036854775808 ≤ xt ∧ xt ≤ 9223372036854775807 := by
        simp only [Lit.wf, IntKind.min, IntKind.max, IntKind.signed, IntKind.bits, Bool.and_eq_true, decide_eq_true_eq, if_true] at hwf
        exact hwf
      have h1i : (1 : Int) ≤ s.last := (HO.out.play.ok.inn 1 (by rw [HO.out.nev.m]; exact List.mem_cons_self ..)).2.2
      have hrl : ∀ x ∈ r, x ≤ s.last := fun x hx => (HO.out.play.ok.inn x (by rw [HO.out.nev.m]; exact List.mem_cons_of_mem _ hx)).2.2
      clear hxw hxt hwf
      obtain ⟨kd, hkd⟩ : ∃ kd, (wrap64 (xw.tmod 4 + 4)).tmod 4 = kd := ⟨_, rfl⟩
      by_cases hk0 : kd = 0
      · subst hk0
        have hE := x_enter HO.out.play (by have := HLS.out; omega) HO.out.hlt
        go_wp2_with fail
        refine hE.mono ?_
        rintro e w4 ⟨rfl, h4, k4⟩
        clear hE hkd
        have hin4 := HO.out.inn.keep (k4.2 _ (.inr rfl) HO.out.inn.lt)
        obtain ⟨w5, hput, hin5, hg5⟩ := hin4.put (by unfold maxLen; omega) (s.last + 1) (by have := HLS.out; omega) (fun hx => by have := hrl _ hx; omega)
        have hp5 := PlayX.mapped h4 hg5
        have HX : Hid (NevAt w1 w5 (enterF s) (r ++ [s.last + 1]) (k + 1) (n + 1)) := ⟨hp5, hin5, HO.out.nev.enter⟩
        clear h4 k4 hin4 hin5 hg5 hp5
        have HB' : Hid (Below w.heap.size w w5) := HB1.out.trans (HX.out.play.bel.mono HB1.out.size)
        have hHas := x_has HX.out.play (-1)
        rw [HX.out.nev.one] at hHas
        go_wp2_with fail
        refine hHas.mono ?_
        rintro e w8 ⟨rfl, hb8⟩
        clear hHas
        have HX8 : Hid (NevAt w1 w8 (enterF s) (r ++ [s.last + 1]) (k + 1) (n + 1)) := ⟨(HX.out.play.below hb8).mono (fun q hq => .inl hq), HX.out.inn.keep (hb8.block _ HX.out.inn.lt), HX.out.nev⟩
        have hC := x_count HX8.out.play
        have hlm : (enterF s).m.length = 1 + ((r ++ [s.last + 1])).length := by rw [HX8.out.nev.m, List.length_cons]; omega
        have hlr := HX8.out.inn.len
        have hrb : ((r ++ [s.last + 1])).length ≤ 1000 := HX8.out.rlen
        rw [hlm] at hC
        clear hb8 hlm
        obtain ⟨q, hq⟩ : ∃ q, ((r ++ [s.last + 1])).length = q := ⟨_, rfl⟩
        rw [hq] at hC hlr hrb
        clear hq
        have hne8 : (((1 + q : Nat) : Int) != (1 + (q : Int))) = false := by simp
        have hwq : wrap64 (1 + (q : Int)) = 1 + (q : Int) := by unfold wrap64; omega
        have hwk : wrap64 ((k : Int) + 1) = (k : Int) + 1 := by unfold wrap64; omega
        go_wp2_with fail
        refine hC.mono ?_
        rintro e w9 ⟨rfl, hw9⟩
        subst hw9
        clear hC hrl h1i hxtb
        go_wp2_with fail
        go_roundw
        case rel => exact ⟨k + 1, n, (enterF s), (r ++ [s.last + 1]), by omega, by omega, by go_num, by first | rfl | go_num, by first | rfl | go_num, by omega, by have := HLS.out; show s.last + 1 ≤ ((k + 1 : Nat) : Int) + 1; omega, HX8.out⟩
        case measure => simp [intOf]; omega
      · have hkb0 : (kd == 0) = false := by rw [beq_eq_false_iff_ne]; exact hk0
        by_cases hk1 : kd = 1
        · subst hk1
          clear hk0 hkb0
          by_cases hx1 : xt = 1
          · have hxb : (xt == 1) = true := by rw [beq_iff_eq]; exact hx1
            clear hx1 hrl h1i hxtb
            go_wp2_with fail
            go_roundw
            case rel => exact ⟨k + 1, n, s, r, by omega, by omega, by go_num, rfl, rfl, by omega, by have := HLS.out; omega, ⟨HO.out.play, HO.out.inn.mono (by omega), HO.out.nev⟩⟩
            case measure => simp [intOf]; omega
          · have hxb : (xt == 1) = false := by rw [beq_eq_false_iff_ne]; exact hx1
            obtain ⟨w4, hdel, hin4, hg4⟩ := HO.out.inn.del (List.pairwise_cons.1 HO.out.asc).2 xt hxtb
            have hp4 := PlayX.mapped HO.out.play hg4
            have hX := x_leave hp4 xt hxtb
            obtain ⟨hnev, hle⟩ := HO.out.nev.leave hx1
            rw [hle] at hX
            have ck1' := (World.cell?_of_block (a := ⟨b0, off0 + k * 3 + 1, none⟩) (hg4.block b0 (by have := HO.out.play.bel.size; have := HB1.out.size; omega) (fun e => by injection e with e; have := HB1.out.size; omega))).trans ck1
            clear hx1 hg4 hp4 hle
            go_wp2_with fail
            refine hX.mono ?_
            rintro e w5 ⟨⟨v5, rfl, r5⟩, h5, k5⟩
            clear hX hdel hkd
            obtain ⟨a5, c5, hv5⟩ := r5.slice
            have hv5' : v5 = .slice a5 0 c5 := hv5
            subst hv5'
            have HX : Hid (NevAt w1 w5 (leaveF s xt) (strike r xt) (k + 1) (n + 1)) := ⟨h5.mono (fun q hq => .inl hq), (hin4.keep (k5.2 _ (.inr rfl) hin4.lt)).mono (by omega), hnev⟩
            clear h5 k5 hin4 hnev r5 hv5
            have HB' : Hid (Below w.heap.size w w5) := HB1.out.trans (HX.out.play.bel.mono HB1.out.size)
            have hHas := x_has HX.out.play (-1)
            rw [HX.out.nev.one] at hHas
            go_wp2_with fail
            refine hHas.mono ?_
            rintro e w8 ⟨rfl, hb8⟩
            clear hHas
            have HX8 : Hid (NevAt w1 w8 (leaveF s xt) (strike r xt) (k + 1) (n + 1)) := ⟨(HX.out.play.below hb8).mono (fun q hq => .inl hq), HX.out.inn.keep (hb8.block _ HX.out.inn.lt), HX.out.nev⟩
            have hC := x_count HX8.out.play
            have hlm : (leaveF s xt).m.length = 1 + ((strike r xt)).length := by rw [HX8.out.nev.m, List.length_cons]; omega
            have hlr := HX8.out.inn.len
            have hrb : ((strike r xt)).length ≤ 1000 := HX8.out.rlen
            rw [hlm] at hC
            clear hb8 hlm
            obtain ⟨q, hq⟩ : ∃ q, ((strike r xt)).length = q := ⟨_, rfl⟩
            rw [hq] at hC hlr hrb
            clear hq
            have hne8 : (((1 + q : Nat) : Int) != (1 + (q : Int))) = false := by simp
            have hwq : wrap64 (1 + (q : Int)) = 1 + (q : Int) := by unfold wrap64; omega
            have hwk : wrap64 ((k : Int) + 1) = (k : Int) + 1 := by unfold wrap64; omega
            go_wp2_with fail
            refine hC.mono ?_
            rintro e w9 ⟨rfl, hw9⟩
            subst hw9
            clear hC hrl h1i hxtb
            go_wp2_with fail
            go_roundw
            case rel => exact ⟨k + 1, n, (leaveF s xt), (strike r xt), by omega, by omega, by go_num, by first | rfl | go_num, by first | rfl | go_num, by omega, by have := HLS.out; show s.last ≤ ((k + 1 : Nat) : Int) + 1; omega, HX8.out⟩
            case measure => simp [intOf]; omega
        · have hkb1 : (kd == 1) = false := by rw [beq_eq_false_iff_ne]; exact hk1
          have hD := x_drop1 HO.out.play (by rw [HO.out.nev.m]; exact List.cons_ne_nil _ _) (k : Int) (by rw [HO.out.nev.len]; omega) HO.out.hlt
          have hwn : wrap64 ((n : Int) + 1) = (n : Int) + 1 := by unfold wrap64; omega
          clear hk0 hk1
          go_wp2_with fail
          refine hD.mono ?_
          rintro e w5 ⟨rfl, h5, k5⟩
          clear hD hkd hkb0 hkb1
          have HX : Hid (NevAt w1 w5 (dropF s [(k : Int)]) r (k + 1) (n + 1 + 1)) := ⟨h5, (HO.out.inn.keep (k5.2 _ (.inr rfl) HO.out.inn.lt)).mono (by omega), HO.out.nev.drop h1i (k : Int)⟩
          clear h5 k5
          have HB' : Hid (Below w.heap.size w w5) := HB1.out.trans (HX.out.play.bel.mono HB1.out.size)
          have hHas := x_has HX.out.play (-1)
          rw [HX.out.nev.one] at hHas
          go_wp2_with fail
          refine hHas.mono ?_
          rintro e w8 ⟨rfl, hb8⟩
          clear hHas
          have HX8 : Hid (NevAt w1 w8 (dropF s [(k : Int)]) r (k + 1) ((n + 1) + 1)) := ⟨(HX.out.play.below hb8).mono (fun q hq => .inl hq), HX.out.inn.keep (hb8.block _ HX.out.inn.lt), HX.out.nev⟩
          have hC := x_count HX8.out.play
          have hlm : (dropF s [(k : Int)]).m.length = 1 + (r).length := by rw [HX8.out.nev.m, List.length_cons]; omega
          have hlr := HX8.out.inn.len
          have hrb : (r).length ≤ 1000 := HX8.out.rlen
          rw [hlm] at hC
          clear hb8 hlm
          obtain ⟨q, hq⟩ : ∃ q, (r).length = q := ⟨_, rfl⟩
          rw [hq] at hC hlr hrb
          clear hq
          have hne8 : (((1 + q : Nat) : Int) != (1 + (q : Int))) = false := by simp
          have hwq : wrap64 (1 + (q : Int)) = 1 + (q : Int) := by unfold wrap64; omega
          have hwk : wrap64 ((k : Int) + 1) = (k : Int) + 1 := by unfold wrap64; omega
          go_wp2_with fail
          refine hC.mono ?_
          rintro e w9 ⟨rfl, hw9⟩
          subst hw9
          clear hC hrl h1i hxtb
          go_wp2_with fail
          go_roundw
          case rel => exact ⟨k + 1, (n + 1), (dropF s [(k : Int)]), r, by omega, by omega, by go_num, by first | rfl | go_num, by first | rfl | go_num, by omega, by have := HLS.out; show s.last ≤ ((k + 1 : Nat) : Int) + 1; omega, HX8.out⟩
          case measure => simp [intOf]; omega
    · obtain ⟨wo, rfl⟩ : ∃ wo, wo = wr := ⟨_, rfl⟩
      have hor : ¬ k < len ∨ (k < len ∧ ¬ k < 60) := by omega
      rcases hor with g1 | ⟨g1, g2⟩
      all_goals
        clear hlt
        obtain ⟨D, hown, hhas, hsz⟩ := HO.out.inn
        have HR1 : Hid (∀ x ∈ r, 1 < x) := (List.pairwise_cons.1 HO.out.asc).1
        have HH : Hid (∀ x : Int, Maps.has D (.int .i64 x) = decide (x ∈ r)) := hhas
        clear hhas hsz
        go_wp2_with (first
          | (at_range; refine wpList_range_own _ rfl _ 46 rfl 3 4 law Try.underlying46 _ (w1.heap.size + 1) k _ rfl hown ?_; intro w4 hrg4 hg4 hs4)
          | go_in)
        go_frame
        have hb4 : Below wo.heap.size wo w4 := (Below.refl _ _).grown hg4 (Nat.le_refl _) (fun k e => by cases e)
        have HP4 : Hid (PlayX (fun q => q < w1.heap.size ∨ q = w1.heap.size + 1 ∨ q = wo.heap.size) w1 w4 w1.heap.size s) := (HO.out.play.below hb4).mono (fun q hq => by
          rcases hq with hq | hq | hq
          · exact .inl (.inl hq)
          · exact .inl (.inr hq)
          · exact .inr (by omega))
        have HRG4 : Hid (w4.ranges Try.prog 3 (plainElem (H := Unit) Try.prog 4) (w1.heap.size + 1) wo.heap.size k D (Maps.has D) (Maps.size D)) := hrg4
        have hwos : w1.heap.size ≤ wo.heap.size := HO.out.play.bel.size
        clear hrg4 hg4 hs4 hb4 hown
        go_loopw [6] (fun fv wq => ∃ (left : Lit → Bool) (cnt : Nat) (s' : HS Int) (r' : List Int), fv = .int .i64 0 ∧ wq.ranges Try.prog 3 (plainElem (H := Unit) Try.prog 4) (w1.heap.size + 1) wo.heap.size k D left cnt ∧ PlayX (fun q => q < w1.heap.size ∨ q = w1.heap.size + 1 ∨ q = wo.heap.size) w1 wq w1.heap.size s' ∧ Nev s' r' (n + 1) ∧ (∀ x ∈ r', left (.int .i64 x) = true) ∧ (∀ x, left (.int .i64 x) = true → x ∈ r)) (fun _ wq => wq.rangeLeft (w1.heap.size + 1) wo.heap.size)
        case atStart => exact ⟨_, _, s, r, rfl, HRG4.out, HP4.out, HO.out.nev, fun x hx => by rw [HH.out]; exact decide_eq_true hx, fun x hx => by rw [HH.out] at hx; exact of_decide_eq_true hx⟩
        case round =>
          obtain ⟨left, cnt, s', r', rfl, hrg, hp, hn, hl1, hl2⟩ := hrel
          have HPP : Hid (PlayX (fun q => q < w1.heap.size ∨ q = w1.heap.size + 1 ∨ q = wo.heap.size) w1 wr w1.heap.size s') := hp
          have HNN : Hid (Nev s' r' (n + 1)) := hn
          have HL1 : Hid (∀ x ∈ r', left (.int .i64 x) = true) := hl1
          have HL2 : Hid (∀ x, left (.int .i64 x) = true → x ∈ r) := hl2
          have HRG : Hid (wr.ranges Try.prog 3 (plainElem (H := Unit) Try.prog 4) (w1.heap.size + 1) wo.heap.size k D left cnt) := hrg
          clear hp hn hl1 hl2
          go_wp2_with (first
            | (at_next; refine wpList_next_ranges (α := Int) (β := Nat) _ rfl _ rfl 3 law (plainElem (H := Unit) Try.prog 4) (Value.int .i64) (fun c => Value.bool (c == 0)) invK invV (w1.heap.size + 1) wo.heap.size k _ _ _ rfl hrg ?_ ?_)
            | go_in)
          · intro _ hl0
            have hr0 : r' = [] := List.eq_nil_iff_forall_not_mem.2 (fun x hx => by have := HL1.out x hx; rw [hl0] at this; cases this)
            have hn0 := HNN.out
            rw [hr0] at hn0
            obtain ⟨e1, e2, e3⟩ := hn0.last
            have hX := x_leave HPP.out 1 (by decide)
            have hwn : wrap64 ((n : Int) + 1) = (n : Int) + 1 := by unfold wrap64; omega
            have hbe : (((n + 1 : Nat) : Int) == (n : Int) + 1) = true := by rw [beq_iff_eq]; omega
            clear hl0 hr0 hn0 hrg
            go_wp2_with fail
            refine hX.mono ?_
            rintro e w5 ⟨⟨v5, rfl, r5⟩, h5, k5⟩
            clear hX
            obtain ⟨a5, c5, hv5⟩ := r5.slice
            rw [e3] at hv5
            subst hv5
            have hC := x_count h5
            have hHd := x_held h5
            rw [e1] at hC
            rw [e2] at hHd
            have HB5 : Hid (Below w.heap.size w w5) := HB1.out.trans (h5.bel.mono HB1.out.size)
            clear r5 k5 h5 e1 e2 e3
            go_wp2_with fail
            refine hC.mono ?_
            rintro e w6 ⟨rfl, hw6⟩
            subst hw6
            clear hC
            go_wp2_with fail
            refine hHd.mono ?_
            rintro e w7 ⟨v7, rfl, r7, hb7⟩
            clear hHd
            obtain ⟨a7, c7, hv7⟩ := r7.slice
            have hv7' : v7 = .slice a7 0 c7 := hv7
            subst hv7'
            have HB7 : Hid (Below w.heap.size w w7) := HB5.out.trans (hb7.mono HB5.out.size)
            clear hv7 r7 hb7
            go_wp2_with fail
            go_ret
            exact ⟨rfl, HB7.out⟩
          · intro x c kl y1 y2 w5 cnt5 hkey hlk hv hat hrg5 hlt5 hg5 hs5 hen
            obtain ⟨x', ex, rfl, hwx⟩ := Maps.keyOf_int_inv Try.underlying3 hkey
            cases ex
            have hx1 : x ≠ 1 := by have := HR1.out x (HL2.out x hlk); omega
            have hxtb : -9223372036854775808 ≤ x ∧ x ≤ 9223372036854775807 := by
              simp only [Lit.wf, IntKind.min, IntKind.max, IntKind.signed, IntKind.bits, Bool.and_eq_true, decide_eq_true_eq, if_true] at hwx
              exact hwx
            have hp5 := (HPP.out.turned (S' := fun q => q = wo.heap.size) (Turn.grown hg5 (fun g e => by injection e with e; exact e.symm)) (fun q e => .inr (.inr e)) (fun q e => by subst e; exact hwos)).mono (fun q hq => .inl hq)
            have hX := x_leave hp5 x hxtb
            obtain ⟨hn', hle⟩ := HNN.out.leave hx1
            rw [hle] at hX
            have HNN' : Hid (Nev (leaveF s' x) (strike r' x) (n + 1)) := hn'
            have HRG5 : Hid (w5.ranges Try.prog 3 (plainElem (H := Unit) Try.prog 4) (w1.heap.size + 1) wo.heap.size k D (fun z => left z && !z.sameKey (Lit.int .i64 x)) cnt5) := hrg5
            clear hkey hv hat hrg5 hg5 hp5 hle hn' hwx hx1 hxtb hrg
            go_wp2_with fail
            refine hX.mono ?_
            rintro e w6 ⟨⟨v6, rfl, r6⟩, h6, k6⟩
            clear hX hen
            obtain ⟨a6, c6, hv6⟩ := r6.slice
            have hv6' : v6 = .slice a6 0 c6 := hv6
            subst hv6'
            have HRG6 : Hid (w6.ranges Try.prog 3 (plainElem (H := Unit) Try.prog 4) (w1.heap.size + 1) wo.heap.size k D (fun z => left z && !z.sameKey (Lit.int .i64 x)) cnt5) :=
              ranges_keep HRG5.out (k6.2 _ (.inr (.inl rfl)) HRG5.out.owns.lt) (k6.2 _ (.inr (.inr rfl)) HRG5.out.lt)
            have HP6 : Hid (PlayX (fun q => q < w1.heap.size ∨ q = w1.heap.size + 1 ∨ q = wo.heap.size) w1 w6 w1.heap.size (leaveF s' x)) := h6.mono (fun q hq => .inl hq)
            clear hv6 r6 h6 k6
            go_wp2_with fail
            go_roundw
            case rel =>
              refine ⟨_, cnt5, leaveF s' x, strike r' x, rfl, HRG6.out, HP6.out, HNN'.out, fun y hy => ?_, fun y hy => ?_⟩
              · obtain ⟨hy1, hy2⟩ := mem_strike.1 hy
                show (left (.int .i64 y) && !(Lit.int .i64 y).sameKey (Lit.int .i64 x)) = true
                rw [HL1.out y hy1, Maps.sameKey_ne (key_ne hy2)]
                rfl
              · have hy' : (left (.int .i64 y) && !(Lit.int .i64 y).sameKey (Lit.int .i64 x)) = true := hy
                rw [Bool.and_eq_true] at hy'
                exact HL2.out y hy'.1
            case measure => rw [HRG6.out.left_eq, HRG.out.left_eq]; exact hlt5

end Go.Proofs.Ytmapaplpoogpfaa.Hd
