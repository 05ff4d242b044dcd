/-
  A play: what the law answers. No condition.
-/
import Derived.Test.YtgfbcekmnpdoeaaHdSp
import Derived.Test.YtgfbcekmnpdoeaaHdPl0
import Derived.Test.YtgfbcekmnpdoeaaHdActs
import Derived.Test.YtgfbcekmnpdoeaaHdReg
namespace Go.Proofs.Ytgfbcekmnpdoeaa.Hd
open Go.ChangeShapes Go.WideShapes Go.ChangeAt Go.RowKit Go.Proofs.Fa
open Go.Proofs.Ytgfbcekmnpdoeaa.Hdi
open Go.Proofs.Ytgfbcekmnpdoeaa.Nv (Turn Grow lt_of_heap lt_of_cell cell_of_heap free_of_heap icells scells icells_one scells_one CellsAt)

set_option maxRecDepth 100000
set_option maxHeartbeats 40000000

theorem ok_mlen {s : HS Int} (hok : Ok s) : s.m.length ≤ 1000 := by
  have : ∀ (m : List Int) (lo hi : Int), m.Pairwise (· < ·) → (∀ t ∈ m, lo ≤ t ∧ t ≤ hi) → (m.length : Int) ≤ max 0 (hi - lo + 1) := by
    intro m
    induction m with
    | nil => intro lo hi _ _; simp only [List.length_nil]; omega
    | cons x r ih =>
      intro lo hi hp hb
      obtain ⟨h1, h2⟩ := List.pairwise_cons.1 hp
      have hx := hb x (List.mem_cons_self ..)
      have := ih (x + 1) hi h2 (fun t ht => ⟨by have := h1 t ht; omega, (hb t (List.mem_cons_of_mem _ ht)).2⟩)
      simp only [List.length_cons]
      omega
  have h1 := this s.m 1 s.last hok.asc (fun t ht => (hok.inn t ht).2)
  have h2 := hok.lastB
  have h3 := hok.last0
  omega

theorem ref_nl {w : World} {b : Nat} {last : Int} {ins : List Int} {T : List Th} {vi vl : Value} (h : RefIn w b last ins T vi vl) : ∀ g, vl.ownBlock = some g → g ≠ b := by
  intro g hg e
  subst e
  rcases h.row.2 with ⟨h0, _⟩ | ⟨g', cap', cur, he, _, hh, _⟩
  · rw [h0] at hg
    cases hg
  · subst he
    cases hg
    rw [h.main] at hh
    injection hh with hh
    injection hh with _ hh
    exact absurd hh (by decide)
/-- One ticket more in the document's holds. -/
theorem plays_in {w1 w4 w6 : World} {s : HS Int} {T : List Th} {vi vl vi' : Value} (h : PlaysAt w1 w4 s T vi vl)
    (hm : w6.heap[w1.heap.size + 1]? = some (.cells #[.int .i64 (s.last + 1), vi', vl] 32 (0, 0))) (hr : TRow w6 w4.heap.size vi' (s.m ++ [s.last + 1])) (ht : Turn (fun k => k = w1.heap.size + 1) w4 w6) :
    PlayX (DocH w1 T vi' vl) w1 w6 w1.heap.size s ∧ RefIn w6 (w1.heap.size + 1) (s.last + 1) (s.m ++ [s.last + 1]) T vi' vl := by
  have hb := lt_of_heap h.ref.main
  refine ⟨(h.play.turned ht (fun q e => .inr (.inl e)) (fun q e => by subst e; omega)).mono (fun q hq => ?_), ⟨hm, TRow.base hr (Nat.zero_le _), h.ref.row.keep (fun g hg => ht.block g (h.ref.row.lt g hg) (ref_nl h.ref g hg)), fun t htt => (h.ref.all t htt).keep (fun g hg => ht.block g ((h.ref.all t htt).lt g hg) (h.ref.nt t htt g hg)), fun g hg => by have := hr.ge g hg; omega, h.ref.nt⟩⟩
  rcases hq with hq | hq | hq | hq | hq
  · exact .inl (.inl hq)
  · exact .inl (.inr (.inl hq))
  · exact .inr (hr.ge q hq)
  · exact .inl (.inr (.inr (.inr (.inl hq))))
  · exact .inl (.inr (.inr (.inr (.inr hq))))

theorem holdPlays_calls {H : Type} {enc : TypeId × Value → H} {sp : Nat → Bool} {held : Bool} {d : DataW H} {p : List MemPlace} (a : Option Addr) (len cap : Nat) (w : World)
    (ht : DataW.Trod enc Try.prog w 0 sp held 22 (.slice a len cap) d p) :
    Calls Try.prog 3 #[.slice a len cap] w fun e w' => e = .returned (.bool true) ∧ Below w.heap.size w w' := by
  obtain ⟨L, hL, hlm⟩ := acts_of_trod ht
  have HL : Hid (ActsAt w a len L) := hL
  clear ht hL
  go_enter Try.func3, Try.ntmps3
  go_wp2_with fail
  refine (Hds.speaks_any w).mono ?_
  rintro e w1 ⟨rfl, hb1⟩
  have HB1 : Hid (Below w.heap.size w w1) := hb1
  clear hb1
  obtain ⟨w2, hw2⟩ : ∃ w2, w2 = (w1.alloc (Obj.cells #[.int .i64 0, .map none, .int .i64 0, .slice none 0 0] 27)).alloc (Obj.cells #[.int .i64 0, .slice none 0 0, .slice none 0 0] 32) := ⟨_, rfl⟩
  have HP2 : Hid (PlaysAt w1 w2 (⟨0, [], 0, []⟩ : HS Int) [] (.slice none 0 0) (.slice none 0 0)) := by
    have h0 := PlayX.new w1
    have hb := (Below.refl _ (w1.alloc (Obj.cells #[.int .i64 0, .map none, .int .i64 0, .slice none 0 0] 27))).alloc (Nat.le_refl _) (Obj.cells #[.int .i64 0, .slice none 0 0, .slice none 0 0] 32)
    rw [← hw2] at hb
    have hn := heap_alloc_new (w1.alloc (Obj.cells #[.int .i64 0, .map none, .int .i64 0, .slice none 0 0] 27)) (Obj.cells #[.int .i64 0, .slice none 0 0, .slice none 0 0] 32)
    rw [← hw2, World.size_alloc] at hn
    refine ⟨(h0.below hb).mono (fun q hq => ?_), ⟨hn, World.ownsRow_nil _ _ _ _, World.ownsRow_nil _ _ _ _, (fun _ h => nomatch h), (fun _ h => nomatch h), (fun _ h => nomatch h)⟩, rfl, Eqv.new⟩
    rcases hq with hq | hq | hq | hq | ⟨t, ht, _⟩
    · exact .inl hq
    · right; rw [World.size_alloc]; omega
    · cases hq
    · cases hq
    · cases ht
  go_wp2_with fail
  rw [← hw2]
  clear hw2
  go_loopw [5] (fun iv wr => ∃ (k : Nat) (s : HS Int) (T : List Th) (vi vl : Value), k ≤ len ∧ k ≤ 60 ∧ iv = .int .i64 k ∧ s.last ≤ k ∧ s.l.length ≤ 6 * k ∧ PlaysAt w1 wr s T vi vl) (fun iv _ => 60 - (intOf iv).toNat)
  case atStart => exact ⟨0, _, _, _, _, Nat.zero_le _, Nat.zero_le _, rfl, by decide, Nat.zero_le _, HP2.out⟩
  case round =>
    obtain ⟨k, s, T, vi, vl, hk, hk60, rfl, hls, hll, ho⟩ := hrel
    have HO : Hid (PlaysAt w1 wr s T vi vl) := ho
    have HLS : Hid (s.last ≤ k) := hls
    have HLL : Hid (s.l.length ≤ 6 * k) := hll
    clear ho hls hll
    by_cases hlt : k < len ∧ k < 60
    · obtain ⟨hlt1, hlt2⟩ := hlt
      obtain ⟨b0, off0, ha0, hbl0, hc0⟩ : ∃ b off, a = some ⟨b, off, none⟩ ∧ b < w.heap.size ∧ ∀ i, i < len → ActCells w b (off + i * 3) (L i) := by
        rcases HL.out.1 with h | h
        · omega
        · exact h
      subst ha0
      have hbw : Below w.heap.size w wr := HB1.out.trans (HO.out.play.bel.mono HB1.out.size)
      obtain ⟨ck0, ck1, ck2⟩ := (hc0 k hlt1).below hbw hbl0
      obtain ⟨_, hwt, hcell, hlc⟩ := HL.out.2 k hlt1
      clear hc0
      generalize L k = x at *
      obtain ⟨xw, xt, xa, xn, xc, xl⟩ := x
      dsimp only at ck0 ck1 ck2 hwt hcell hlc
      have hxtb : -9223372036854775808 ≤ xt ∧ xt ≤ 9223372036854775807 := by
        simp only [Lit.wf, IntKind.min, IntKind.max, IntKind.signed, IntKind.bits, Bool.and_eq_true, decide_eq_true_eq, if_true] at hwt
        exact hwt
      obtain ⟨n, hn⟩ : ∃ n : Nat, n = min xn 6 := ⟨_, rfl⟩
      have hq1 : (if (6 : Int) < (xn : Int) then (6 : Int) else (xn : Int)) = (n : Int) := by split <;> omega
      have hq2 : min (xn : Int) 6 = (n : Int) := by omega
      have hnl : n ≤ xn := by omega
      have hnc : n ≤ xc := by omega
      have hn6 : n ≤ 6 := by omega
      clear hn hwt
      obtain ⟨w3, hw3⟩ : ∃ w3, w3 = wr.alloc (Obj.cells #[.int .i64 xw, .int .i64 xt, .slice xa xn xc] 34) := ⟨_, rfl⟩
      have hb3 : Below wr.heap.size wr w3 := by rw [hw3]; exact (Below.refl _ _).alloc (Nat.le_refl _) _
      have hx3 : w3.heap[wr.heap.size]? = some (.cells #[.int .i64 xw, .int .i64 xt, .slice xa xn xc] 34 (0, 0)) := by rw [hw3]; exact heap_alloc_new wr _
      have hbw3 : Below w.heap.size w w3 := hbw.trans (hb3.mono hbw.size)
      obtain ⟨v4, w4, hrun, r4, hb4⟩ := keep_row w3 xa n xc xl (by omega) (by
        rcases hcell with h | ⟨b2, off2, e, hl, hc⟩
        · exact .inl (by omega)
        · exact .inr ⟨b2, off2, e, Nat.lt_of_lt_of_le hl hbw3.size, fun i hi => (hbw3.cell (p := ⟨b2, off2 + i, none⟩) hl).trans (hc i (by omega))⟩)
      have hx4 := (hb4.block _ (lt_of_heap hx3)).trans hx3
      have HO4 : Hid (PlaysAt w1 w4 s T vi vl) := (HO.out.below hb3).below hb4
      have hpx := (HO.out.below hb3).play.below hb4
      have hpl : PlayX (fun q => DocH w1 T vi vl q ∨ q = wr.heap.size) w1 w4 w1.heap.size s := (((HO.out.play.below hb3).mono (H' := fun q => DocH w1 T vi vl q ∨ q = wr.heap.size) (fun q hq => hq.imp id (fun e => Nat.le_of_eq e.symm))).below hb4).mono (fun q hq => .inl hq)
      rw [hw3, World.size_alloc] at hrun
      have HX4 : Hid (w4.heap[wr.heap.size]? = some (.cells #[.int .i64 xw, .int .i64 xt, .slice xa xn xc] 34 (0, 0))) := hx4
      have HR4 : Hid (TRow w4 w3.heap.size v4 ((List.range n).map xl)) := r4
      have e0 := cell_of_heap HX4.out 0 _ rfl
      have e1 := cell_of_heap HX4.out 1 _ rfl
      obtain ⟨kd, hkd⟩ : ∃ kd, (wrap64 (xw.tmod 4 + 4)).tmod 4 = kd := ⟨_, rfl⟩
      clear hcell hx4 hx3 hbw3 hb3 hb4 hbw r4
      have hr4w : TRow w4 w3.heap.size v4 ((List.range n).map xl) := HR4.out
      obtain ⟨xs, hxs⟩ : ∃ xs, (List.range n).map xl = xs := ⟨_, rfl⟩
      have hxl : xs.length ≤ 6 := by rw [← hxs, List.length_map, List.length_range]; exact hn6
      rw [hxs] at HR4 hr4w
      have hw3s : w1.heap.size + 1 < w3.heap.size := by
        have h1 := lt_of_heap HO4.out.ref.main
        have h2 := lt_of_heap HO.out.ref.main
        rw [hw3, World.size_alloc]; omega
      have HPL : Hid (PlayX (fun q => DocH w1 T vi vl q ∨ q = wr.heap.size) w1 w4 w1.heap.size s) := hpl
      have HPX : Hid (PlayX (fun q => DocH w1 T vi vl q ∨ v4.ownBlock = some q) w1 w4 w1.heap.size s) := hpx.mono (fun q hq => hq.imp id (fun e => hr4w.ge q e))
      obtain ⟨a4, c4, hv4⟩ := hr4w.slice
      have hdx : TAt w4 v4 xs := HR4.out.at
      clear hxs hpx hw3 hpl
      by_cases hk0 : kd = 0
      · skip
        have hkb0 : (kd == 0) = true := beq_iff_eq.2 hk0
        clear hk0
        subst hv4
        obtain ⟨va, vc, hva⟩ := HO4.out.ref.ins.slice
        subst hva
        have hok := HO.out.play.ok
        have hlast : 0 ≤ s.last ∧ s.last ≤ 60 := ⟨hok.last0, by have := HLS.out; omega⟩
        have hml := ok_mlen hok
        clear hok
        have hwl : IntKind.i64.wrap (s.last + 1) = s.last + 1 := IntWalk.i64_in _ (by omega)
        have d0 := cell_of_heap HO4.out.ref.main 0 _ rfl
        have fd := free_of_heap HO4.out.ref.main 0
        go_wp2_with (at_builtin; refine wpList_append_run rfl _ _ _ rfl _ _ rfl rfl hrun ?_)
        obtain ⟨w5, hw5⟩ : ∃ w5, w5 = w4.setCell ⟨w1.heap.size + 1, 0, none⟩ (.int .i64 (s.last + 1)) := ⟨_, rfl⟩
        have hm5 : w5.heap[w1.heap.size + 1]? = some (.cells #[.int .i64 (s.last + 1), .slice va s.m.length vc, vl] 32 (0, 0)) := by rw [hw5]; exact heap_setCell_same w4 (w1.heap.size + 1) 0 _ _ _ HO4.out.ref.main
        have hi5 : TRow w5 0 (.slice va s.m.length vc) s.m := HO4.out.ref.ins.keep (fun g hg => by rw [hw5]; exact heap_setCell_other w4 ⟨w1.heap.size + 1, 0, none⟩ g _ (HO4.out.ref.ni g hg))
        have ht5 : Turn (fun k => k = w1.heap.size + 1) w4 w5 := by rw [hw5]; exact (Turn.of_below (Below.refl _ w4)).setCell (w1.heap.size + 1) 0 _ (.inl rfl)
        have hs5 : w5.heap.size = w4.heap.size := by rw [hw5]; simp
        rw [← hw5]
        clear hw5 d0 fd
        refine reg15 (w1.heap.size + 1) w5 (s.last + 1) s.m va vc vl (fun _ _ d _ _ h => by cases d <;> exact h) hm5 hi5 hml (fun p q a1 c1 a2 c2 w6 hm6 hr6 ht6 => ?_)
        rw [hs5] at hr6
        obtain ⟨hp6, href6⟩ := plays_in HO4.out hm6 hr6 (ht5.trans (ht6.mono (fun _ h => .inl h)))
        have HM6 : Hid (w6.heap[w1.heap.size + 1]? = some (.cells #[.int .i64 (s.last + 1), .slice a2 (s.m.length + 1) c2, vl] 32 (0, 0))) := hm6
        have HR6 : Hid (RefIn w6 (w1.heap.size + 1) (s.last + 1) (s.m ++ [s.last + 1]) T (.slice a2 (s.m.length + 1) c2) vl) := href6
        have hX := x_enter (wr := w6.drew) (hp6.below (Below.refl _ _).drew |>.mono (fun q hq => .inl hq)) (by omega) (fun q hq => ref_lt HR6.out q hq)
        have e6 := cell_of_heap hm6 0 _ rfl
        have hne : ((s.last + 1 : Int) != s.last + 1) = false := by simp
        clear hm5 hi5 ht5 hs5 hr6 ht6 hp6 href6 hm6
        go_wp2_with fail
        refine wp_region_held_drew (S := fun W => W.cell? ⟨w1.heap.size + 1, 0, none⟩ = some (.int .i64 (s.last + 1))) (by kernel_rfl) (by exact e6) (fun hHeld => ?_)
        change wpAnyH _ _ _ _ _ 6 (Array.replicate 6 false) _ _
        refine wpAnyH_take (i := 1) (oi := _) (v := _) (by simp only [List.getElem?_toArray, List.getElem?_cons_succ, List.getElem?_cons_zero]; rfl) (by kernel_rfl) (by kernel_rfl) (by kernel_rfl) (by exact fun _ _ _ h => h) (Or.inl ⟨by rfl, by intro w' hSw; (try dsimp only at hSw); first | (go_simp; done) | (go_simp; with_reducible rfl)⟩) hHeld ?_
        simp only [Act.put, List.setIfInBounds_toArray, List.set_cons_zero, List.set_cons_succ]
        refine wpAnyH_take (i := 2) (oi := _) (v := _) (by simp only [List.getElem?_toArray, List.getElem?_cons_succ, List.getElem?_cons_zero]; rfl) (by kernel_rfl) (by kernel_rfl) (by kernel_rfl) (by exact fun _ _ _ h => h) (Or.inl ⟨by rfl, by intro w' hSw; (try dsimp only at hSw); first | (go_simp; done) | (go_simp; with_reducible rfl)⟩) hHeld ?_
        simp only [Act.put, List.setIfInBounds_toArray, List.set_cons_zero, List.set_cons_succ]
        refine wpAnyH_take (i := 3) (oi := _) (v := _) (by simp only [List.getElem?_toArray, List.getElem?_cons_succ, List.getElem?_cons_zero]; rfl) (by kernel_rfl) (by kernel_rfl) (by kernel_rfl) (by exact fun _ _ _ h => h) (Or.inl ⟨by rfl, by intro w' hSw; (try dsimp only at hSw); first | (go_simp; done) | (go_simp; with_reducible rfl)⟩) hHeld ?_
        simp only [Act.put, List.setIfInBounds_toArray, List.set_cons_zero, List.set_cons_succ]
        refine wpAnyH_take (i := 4) (oi := _) (v := _) (by simp only [List.getElem?_toArray, List.getElem?_cons_succ, List.getElem?_cons_zero]; rfl) (by kernel_rfl) (by kernel_rfl) (by kernel_rfl) (by exact fun _ _ _ h => h) (Or.inl ⟨by rfl, by intro w' hSw; (try dsimp only at hSw); first | (go_simp; done) | (go_simp; with_reducible rfl)⟩) hHeld ?_
        simp only [Act.put, List.setIfInBounds_toArray, List.set_cons_zero, List.set_cons_succ]
        refine wpAnyH_ready (rs := [0]) (by kernel_rfl) (by simp) ?_
        refine AllReadyH.cons rfl (fun K hK => ?_) AllReadyH.nil
        go_simp
        go_wp2_with fail
        refine hX.mono ?_
        rintro r w7 ⟨rfl, h7, k7⟩
        have hE7 : w7.cell? ⟨w1.heap.size + 1, 0, none⟩ = some (.int .i64 (s.last + 1)) := (World.cell?_of_block (a := ⟨w1.heap.size + 1, 0, none⟩) (k7.2 _ (.inr (.inl rfl)) (lt_of_heap HM6.out))).trans hHeld
        have HPA7 : Hid (PlaysAt w1 w7 (enterF s) T (.slice a2 (s.m.length + 1) c2) vl) := ⟨h7, ref_keep HR6.out (fun q hq => k7.2 q hq (ref_lt HR6.out q hq)), HO4.out.key.trans HO4.out.eqv.enter.2.symm, HO4.out.eqv.enter.1⟩
        refine hK.out _ _ hE7 (fun hHeld => ?_)
        clear hK K hX h7 k7
        refine wpAnyH_take (i := 5) (oi := _) (v := _) (by simp only [List.getElem?_toArray, List.getElem?_cons_succ, List.getElem?_cons_zero]; rfl) (by kernel_rfl) (by kernel_rfl) (by kernel_rfl) (by exact fun _ _ _ h => h) (Or.inl ⟨by rfl, by intro w' hSw; (try dsimp only at hSw); first | (go_simp; done) | (go_simp; with_reducible rfl)⟩) hHeld ?_
        simp only [Act.put, List.setIfInBounds_toArray, List.set_cons_zero, List.set_cons_succ]
        refine wpAnyH_done (by kernel_rfl) ?_ _
        clear hHeld e6 HM6 HR6 hne hwl
        obtain ⟨vi2, hv2⟩ : ∃ v : Value, Value.slice a2 (s.m.length + 1) c2 = v := ⟨_, rfl⟩
        have HX : Hid (PlaysAt w1 w7 (enterF s) T vi2 vl) := by rw [← hv2]; exact HPA7.out
        clear hv2 HPA7
        have HXL : Hid ((enterF s).l.length ≤ 6 * k + 6) := by have := HLL.out; show s.l.length ≤ _; omega
        go_wp2_with fail
        have hHd := x_held HX.out.play
        refine hHd.mono ?_
        rintro e w8 ⟨v8, rfl, r8, hb8⟩
        clear hHd
        have HX8 : Hid (PlaysAt w1 w8 (enterF s) (T) vi2 vl) := HX.out.below hb8
        have HR8 : Hid (TRow w8 w7.heap.size v8 ((enterF s).l.map Prod.fst)) := r8
        have hlen8 := HX8.out.len
        have hC := x_count (wr := w8.drew) (HX8.out.below (Below.refl _ _).drew).play
        have m1 := cell_of_heap HX8.out.ref.main 1 _ rfl
        have m2 := cell_of_heap HX8.out.ref.main 2 _ rfl
        obtain ⟨ia, ic, hvi⟩ := HX8.out.ref.ins.slice
        obtain ⟨ta, tc, hvl⟩ := HX8.out.ref.row.slice
        obtain ⟨a8, c8, hv8⟩ := r8.slice
        rw [List.length_map] at hv8
        rw [hlen8] at hvl
        obtain ⟨ml, hml⟩ : ∃ ml, (enterF s).m.length = ml := ⟨_, rfl⟩
        obtain ⟨ll, hll⟩ : ∃ ll, (enterF s).l.length = ll := ⟨_, rfl⟩
        rw [hml] at hvi hC
        rw [hll] at hvl hv8
        have HLN : Hid ((enterF s).l.length = ll) := hll
        have hllb : ll ≤ 6 * k + 6 := by have := HXL.out; omega
        rw [hvi] at m1
        rw [hvl] at m2
        clear hb8 r8 hlen8 hml hll
        subst hv8
        have hne1 : (((ml : Nat) : Int) != (ml : Nat)) = false := by simp
        have hne2 : (((ll : Nat) : Int) != (ll : Nat)) = false := by simp
        go_wp2_with fail
        refine wp_region_held_drew (S := fun W => W.cell? ⟨w1.heap.size + 1, 1, none⟩ = some (.slice ia ml ic) ∧ W.cell? ⟨w1.heap.size + 1, 2, none⟩ = some (.slice ta ll tc)) (by kernel_rfl) (by exact ⟨m1, m2⟩) (fun hHeld => ?_)
        change wpAnyH _ _ _ _ _ 17 (Array.replicate 17 false) _ _
        refine wpAnyH_take (i := 1) (oi := _) (v := _) (by simp only [List.getElem?_toArray, List.getElem?_cons_succ, List.getElem?_cons_zero]; rfl) (by kernel_rfl) (by kernel_rfl) (by kernel_rfl) (by exact fun _ _ _ h => h) (Or.inl ⟨by rfl, by intro w' hSw; (try dsimp only at hSw); first | (go_simp; done) | (go_simp; with_reducible rfl)⟩) hHeld ?_
        simp only [Act.put, List.setIfInBounds_toArray, List.set_cons_zero, List.set_cons_succ]
        refine wpAnyH_take (i := 2) (oi := _) (v := _) (by simp only [List.getElem?_toArray, List.getElem?_cons_succ, List.getElem?_cons_zero]; rfl) (by kernel_rfl) (by kernel_rfl) (by kernel_rfl) (by exact fun _ _ _ h => h) (Or.inl ⟨by rfl, by intro w' hSw; (try dsimp only at hSw); first | (go_simp; done) | (go_simp; with_reducible rfl)⟩) hHeld ?_
        simp only [Act.put, List.setIfInBounds_toArray, List.set_cons_zero, List.set_cons_succ]
        refine wpAnyH_take (i := 3) (oi := _) (v := _) (by simp only [List.getElem?_toArray, List.getElem?_cons_succ, List.getElem?_cons_zero]; rfl) (by kernel_rfl) (by kernel_rfl) (by kernel_rfl) (by exact fun _ _ _ h => h) (Or.inl ⟨by rfl, by intro w' hSw; (try dsimp only at hSw); first | (go_simp; done) | (go_simp; with_reducible rfl)⟩) hHeld ?_
        simp only [Act.put, List.setIfInBounds_toArray, List.set_cons_zero, List.set_cons_succ]
        refine wpAnyH_take (i := 4) (oi := _) (v := _) (by simp only [List.getElem?_toArray, List.getElem?_cons_succ, List.getElem?_cons_zero]; rfl) (by kernel_rfl) (by kernel_rfl) (by kernel_rfl) (by exact fun _ _ _ h => h) (Or.inl ⟨by rfl, by intro w' hSw; (try dsimp only at hSw); first | (go_simp; done) | (go_simp; with_reducible rfl)⟩) hHeld ?_
        simp only [Act.put, List.setIfInBounds_toArray, List.set_cons_zero, List.set_cons_succ]
        refine wpAnyH_take (i := 5) (oi := _) (v := _) (by simp only [List.getElem?_toArray, List.getElem?_cons_succ, List.getElem?_cons_zero]; rfl) (by kernel_rfl) (by kernel_rfl) (by kernel_rfl) (by exact fun _ _ _ h => h) (Or.inl ⟨by rfl, by intro w' hSw; (try dsimp only at hSw); first | (go_simp; done) | (go_simp; with_reducible rfl)⟩) hHeld ?_
        simp only [Act.put, List.setIfInBounds_toArray, List.set_cons_zero, List.set_cons_succ]
        refine wpAnyH_ready (rs := [0]) (by kernel_rfl) (by simp) ?_
        refine AllReadyH.cons rfl (fun K hK => ?_) AllReadyH.nil
        go_simp
        go_wp2_with fail
        refine hC.mono ?_
        rintro r w9 ⟨rfl, hw9⟩
        subst hw9
        refine hK.out _ _ ⟨m1, m2⟩ (fun hHeld => ?_)
        clear hK K
        refine wpAnyH_take (i := 6) (oi := _) (v := _) (by simp only [List.getElem?_toArray, List.getElem?_cons_succ, List.getElem?_cons_zero]; rfl) (by kernel_rfl) (by kernel_rfl) (by kernel_rfl) (by exact fun _ _ _ h => h) (Or.inl ⟨by rfl, by intro w' hSw; (try dsimp only at hSw); first | (go_simp; done) | (go_simp; with_reducible rfl)⟩) hHeld ?_
        simp only [Act.put, List.setIfInBounds_toArray, List.set_cons_zero, List.set_cons_succ]
        refine wpAnyH_take (i := 7) (oi := _) (v := _) (by simp only [List.getElem?_toArray, List.getElem?_cons_succ, List.getElem?_cons_zero]; rfl) (by kernel_rfl) (by kernel_rfl) (by kernel_rfl) (by exact fun _ _ _ h => h) (Or.inl ⟨by rfl, by intro w' hSw; (try dsimp only at hSw); first | (go_simp; done) | (go_simp; with_reducible rfl)⟩) hHeld ?_
        simp only [Act.put, List.setIfInBounds_toArray, List.set_cons_zero, List.set_cons_succ]
        refine wpAnyH_take (i := 8) (oi := _) (v := _) (by simp only [List.getElem?_toArray, List.getElem?_cons_succ, List.getElem?_cons_zero]; rfl) (by kernel_rfl) (by kernel_rfl) (by kernel_rfl) (by exact fun _ _ _ h => h) (Or.inl ⟨by rfl, by intro w' hSw; (try dsimp only at hSw); first | (go_simp; done) | (go_simp; with_reducible rfl)⟩) hHeld ?_
        simp only [Act.put, List.setIfInBounds_toArray, List.set_cons_zero, List.set_cons_succ]
        refine wpAnyH_take (i := 9) (oi := _) (v := _) (by simp only [List.getElem?_toArray, List.getElem?_cons_succ, List.getElem?_cons_zero]; rfl) (by kernel_rfl) (by kernel_rfl) (by kernel_rfl) (by exact fun _ _ _ h => h) (Or.inl ⟨by rfl, by intro w' hSw; (try dsimp only at hSw); first | (go_simp; done) | (go_simp; with_reducible rfl)⟩) hHeld ?_
        simp only [Act.put, List.setIfInBounds_toArray, List.set_cons_zero, List.set_cons_succ]
        refine wpAnyH_take (i := 10) (oi := _) (v := _) (by simp only [List.getElem?_toArray, List.getElem?_cons_succ, List.getElem?_cons_zero]; rfl) (by kernel_rfl) (by kernel_rfl) (by kernel_rfl) (by exact fun _ _ _ h => h) (Or.inl ⟨by rfl, by intro w' hSw; (try dsimp only at hSw); first | (go_simp; done) | (go_simp; with_reducible rfl)⟩) hHeld ?_
        simp only [Act.put, List.setIfInBounds_toArray, List.set_cons_zero, List.set_cons_succ]
        refine wpAnyH_take (i := 11) (oi := _) (v := _) (by simp only [List.getElem?_toArray, List.getElem?_cons_succ, List.getElem?_cons_zero]; rfl) (by kernel_rfl) (by kernel_rfl) (by kernel_rfl) (by exact fun _ _ _ h => h) (Or.inl ⟨by rfl, by intro w' hSw; (try dsimp only at hSw); first | (go_simp; done) | (go_simp; with_reducible rfl)⟩) hHeld ?_
        simp only [Act.put, List.setIfInBounds_toArray, List.set_cons_zero, List.set_cons_succ]
        refine wpAnyH_take (i := 12) (oi := _) (v := _) (by simp only [List.getElem?_toArray, List.getElem?_cons_succ, List.getElem?_cons_zero]; rfl) (by kernel_rfl) (by kernel_rfl) (by kernel_rfl) (by exact fun _ _ _ h => h) (Or.inl ⟨by rfl, by intro w' hSw; (try dsimp only at hSw); first | (go_simp; done) | (go_simp; with_reducible rfl)⟩) hHeld ?_
        simp only [Act.put, List.setIfInBounds_toArray, List.set_cons_zero, List.set_cons_succ]
        refine wpAnyH_take (i := 13) (oi := _) (v := _) (by simp only [List.getElem?_toArray, List.getElem?_cons_succ, List.getElem?_cons_zero]; rfl) (by kernel_rfl) (by kernel_rfl) (by kernel_rfl) (by exact fun _ _ _ h => h) (Or.inl ⟨by rfl, by intro w' hSw; (try dsimp only at hSw); first | (go_simp; done) | (go_simp; with_reducible rfl)⟩) hHeld ?_
        simp only [Act.put, List.setIfInBounds_toArray, List.set_cons_zero, List.set_cons_succ]
        refine wpAnyH_take (i := 14) (oi := _) (v := _) (by simp only [List.getElem?_toArray, List.getElem?_cons_succ, List.getElem?_cons_zero]; rfl) (by kernel_rfl) (by kernel_rfl) (by kernel_rfl) (by exact fun _ _ _ h => h) (Or.inl ⟨by rfl, by intro w' hSw; (try dsimp only at hSw); first | (go_simp; done) | (go_simp; with_reducible rfl)⟩) hHeld ?_
        simp only [Act.put, List.setIfInBounds_toArray, List.set_cons_zero, List.set_cons_succ]
        refine wpAnyH_take (i := 15) (oi := _) (v := _) (by simp only [List.getElem?_toArray, List.getElem?_cons_succ, List.getElem?_cons_zero]; rfl) (by kernel_rfl) (by kernel_rfl) (by kernel_rfl) (by exact fun _ _ _ h => h) (Or.inl ⟨by rfl, by intro w' hSw; (try dsimp only at hSw); first | (go_simp; done) | (go_simp; with_reducible rfl)⟩) hHeld ?_
        simp only [Act.put, List.setIfInBounds_toArray, List.set_cons_zero, List.set_cons_succ]
        refine wpAnyH_take (i := 16) (oi := _) (v := _) (by simp only [List.getElem?_toArray, List.getElem?_cons_succ, List.getElem?_cons_zero]; rfl) (by kernel_rfl) (by kernel_rfl) (by kernel_rfl) (by exact fun _ _ _ h => h) (Or.inl ⟨by rfl, by intro w' hSw; (try dsimp only at hSw); first | (go_simp; done) | (go_simp; with_reducible rfl)⟩) hHeld ?_
        simp only [Act.put, List.setIfInBounds_toArray, List.set_cons_zero, List.set_cons_succ]
        refine wpAnyH_done (by kernel_rfl) ?_ _
        clear hHeld hC hne1 hne2
        have HX9 : Hid (PlaysAt w1 w8.drew (enterF s) (T) vi2 vl) := HX8.out.below (Below.refl _ _).drew
        have HR9 : Hid (TRow w8.drew w7.heap.size (.slice a8 ll c8) ((enterF s).l.map Prod.fst)) := HR8.out.keep (fun _ _ => rfl)
        have hsz9 : w8.heap.size ≤ w8.drew.heap.size := Nat.le_refl _
        generalize w8.drew = w9 at *
        clear m1 m2 hvi hvl
        go_wp2_with fail
        go_loopw [9] (fun jv wq => ∃ j : Nat, j ≤ ll ∧ jv = .int .i64 j ∧ PlaysAt w1 wq (enterF s) (T) vi2 vl ∧ TRow wq w7.heap.size (.slice a8 ll c8) ((enterF s).l.map Prod.fst)) (fun jv _ => ll - (intOf jv).toNat)
        case atStart => exact ⟨0, Nat.zero_le _, rfl, HX9.out, HR9.out⟩
        case round =>
          obtain ⟨j, hj, rfl, hpq, hrq⟩ := hrel
          have HPQ : Hid (PlaysAt w1 wr (enterF s) (T) vi2 vl) := hpq
          have HRQ : Hid (TRow wr w7.heap.size (.slice a8 ll c8) ((enterF s).l.map Prod.fst)) := hrq
          have hlt := hpq.len
          have m2 := cell_of_heap hpq.ref.main 2 _ rfl
          obtain ⟨tq, cq, hvq⟩ := hpq.ref.row.slice
          rw [hlt, HLN.out] at hvq
          clear hpq hrq
          by_cases hjl : j < ll
          · have hjs : j < (enterF s).l.length := by rw [HLN.out]; exact hjl
            have hjt : j < (T).length := by rw [hlt]; exact hjs
            have hrow := HPQ.out.ref.row
            rw [hvq] at hrow m2
            obtain ⟨gt, hgt, hgtl, hle0, hct1, hct2, t0, t1⟩ := hrow.cell j hjt
            subst hgt
            rw [HPQ.out.thing j hjt hjs] at t0
            rcases HRQ.out.at with ⟨_, h0⟩ | ⟨g8, o8, p8, he8, hp1, hp2, hg8, hc8⟩
            · rw [List.map_eq_nil_iff] at h0
              rw [h0] at hjs
              cases hjs
            injection he8 with h81 h82 h83
            subst h81
            rw [← h83, ← h82] at hp1
            rw [← h83] at hp2
            clear h82 h83
            have d0 := hc8 j (by rw [List.length_map]; exact hjs)
            rw [List.getElem_map] at d0
            have hHas := x_has (wr := wr.drew) (HPQ.out.below (Below.refl _ _).drew).play ((enterF s).l[j]).1
            rw [any_at _ j hjs] at hHas
            obtain ⟨y, hy⟩ : ∃ y, ((enterF s).l[j]).1 = y := ⟨_, rfl⟩
            rw [hy] at t0 d0 hHas
            have hyy : (y != y) = false := by simp
            clear t1 hy hc8 hrow hct1 hp1 hlt hle0
            go_wp2_with fail
            refine wp_region_held_drew (S := fun W => W.cell? ⟨g8, o8 + j, none⟩ = some (.int .i64 y) ∧ W.cell? ⟨w1.heap.size + 1, 2, none⟩ = some (.slice (some ⟨gt, 0, none⟩) ll cq) ∧ W.cell? ⟨gt, j * 2, none⟩ = some (.int .i64 y)) (by kernel_rfl) (by exact ⟨d0, m2, t0⟩) (fun hHeld => ?_)
            change wpAnyH _ _ _ _ _ 21 (Array.replicate 21 false) _ _
            refine wpAnyH_take (i := 0) (oi := _) (v := _) (by simp only [List.getElem?_toArray, List.getElem?_cons_zero]; rfl) (by kernel_rfl) (by kernel_rfl) (by kernel_rfl) (by exact fun _ _ _ h => h) (Or.inl ⟨by rfl, by intro w' hSw; (try dsimp only at hSw); first | (go_simp; done) | (go_simp; with_reducible rfl)⟩) hHeld ?_
            simp only [Act.put, List.setIfInBounds_toArray, List.set_cons_zero, List.set_cons_succ]
            refine wpAnyH_take (i := 1) (oi := _) (v := _) (by simp only [List.getElem?_toArray, List.getElem?_cons_succ, List.getElem?_cons_zero]; rfl) (by kernel_rfl) (by kernel_rfl) (by kernel_rfl) (by exact fun _ _ _ h => h) (Or.inl ⟨by rfl, by intro w' hSw; (try dsimp only at hSw); first | (go_simp; done) | (go_simp; with_reducible rfl)⟩) hHeld ?_
            simp only [Act.put, List.setIfInBounds_toArray, List.set_cons_zero, List.set_cons_succ]
            refine wpAnyH_take (i := 2) (oi := _) (v := _) (by simp only [List.getElem?_toArray, List.getElem?_cons_succ, List.getElem?_cons_zero]; rfl) (by kernel_rfl) (by kernel_rfl) (by kernel_rfl) (by exact fun _ _ _ h => h) (Or.inl ⟨by rfl, by intro w' hSw; (try dsimp only at hSw); first | (go_simp; done) | (go_simp; with_reducible rfl)⟩) hHeld ?_
            simp only [Act.put, List.setIfInBounds_toArray, List.set_cons_zero, List.set_cons_succ]
            refine wpAnyH_take (i := 3) (oi := _) (v := _) (by simp only [List.getElem?_toArray, List.getElem?_cons_succ, List.getElem?_cons_zero]; rfl) (by kernel_rfl) (by kernel_rfl) (by kernel_rfl) (by exact fun _ _ _ h => h) (Or.inl ⟨by rfl, by intro w' hSw; (try dsimp only at hSw); first | (go_simp; done) | (go_simp; with_reducible rfl)⟩) hHeld ?_
            simp only [Act.put, List.setIfInBounds_toArray, List.set_cons_zero, List.set_cons_succ]
            refine wpAnyH_take (i := 4) (oi := _) (v := _) (by simp only [List.getElem?_toArray, List.getElem?_cons_succ, List.getElem?_cons_zero]; rfl) (by kernel_rfl) (by kernel_rfl) (by kernel_rfl) (by exact fun _ _ _ h => h) (Or.inl ⟨by rfl, by intro w' hSw; (try dsimp only at hSw); first | (go_simp; done) | (go_simp; with_reducible rfl)⟩) hHeld ?_
            simp only [Act.put, List.setIfInBounds_toArray, List.set_cons_zero, List.set_cons_succ]
            refine wpAnyH_take (i := 5) (oi := _) (v := _) (by simp only [List.getElem?_toArray, List.getElem?_cons_succ, List.getElem?_cons_zero]; rfl) (by kernel_rfl) (by kernel_rfl) (by kernel_rfl) (by exact fun _ _ _ h => h) (Or.inl ⟨by rfl, by intro w' hSw; (try dsimp only at hSw); first | (go_simp; done) | (go_simp; with_reducible rfl)⟩) hHeld ?_
            simp only [Act.put, List.setIfInBounds_toArray, List.set_cons_zero, List.set_cons_succ]
            refine wpAnyH_take (i := 6) (oi := _) (v := _) (by simp only [List.getElem?_toArray, List.getElem?_cons_succ, List.getElem?_cons_zero]; rfl) (by kernel_rfl) (by kernel_rfl) (by kernel_rfl) (by exact fun _ _ _ h => h) (Or.inl ⟨by rfl, by intro w' hSw; (try dsimp only at hSw); first | (go_simp; done) | (go_simp; with_reducible rfl)⟩) hHeld ?_
            simp only [Act.put, List.setIfInBounds_toArray, List.set_cons_zero, List.set_cons_succ]
            refine wpAnyH_take (i := 7) (oi := _) (v := _) (by simp only [List.getElem?_toArray, List.getElem?_cons_succ, List.getElem?_cons_zero]; rfl) (by kernel_rfl) (by kernel_rfl) (by kernel_rfl) (by exact fun _ _ _ h => h) (Or.inl ⟨by rfl, by intro w' hSw; (try dsimp only at hSw); first | (go_simp; done) | (go_simp; with_reducible rfl)⟩) hHeld ?_
            simp only [Act.put, List.setIfInBounds_toArray, List.set_cons_zero, List.set_cons_succ]
            refine wpAnyH_take (i := 8) (oi := _) (v := _) (by simp only [List.getElem?_toArray, List.getElem?_cons_succ, List.getElem?_cons_zero]; rfl) (by kernel_rfl) (by kernel_rfl) (by kernel_rfl) (by exact fun _ _ _ h => h) (Or.inl ⟨by rfl, by intro w' hSw; (try dsimp only at hSw); first | (go_simp; done) | (go_simp; with_reducible rfl)⟩) hHeld ?_
            simp only [Act.put, List.setIfInBounds_toArray, List.set_cons_zero, List.set_cons_succ]
            refine wpAnyH_take (i := 9) (oi := _) (v := _) (by simp only [List.getElem?_toArray, List.getElem?_cons_succ, List.getElem?_cons_zero]; rfl) (by kernel_rfl) (by kernel_rfl) (by kernel_rfl) (by exact fun _ _ _ h => h) (Or.inl ⟨by rfl, by intro w' hSw; (try dsimp only at hSw); first | (go_simp; done) | (go_simp; with_reducible rfl)⟩) hHeld ?_
            simp only [Act.put, List.setIfInBounds_toArray, List.set_cons_zero, List.set_cons_succ]
            refine wpAnyH_take (i := 10) (oi := _) (v := _) (by simp only [List.getElem?_toArray, List.getElem?_cons_succ, List.getElem?_cons_zero]; rfl) (by kernel_rfl) (by kernel_rfl) (by kernel_rfl) (by exact fun _ _ _ h => h) (Or.inl ⟨by rfl, by intro w' hSw; (try dsimp only at hSw); first | (go_simp; done) | (go_simp; with_reducible rfl)⟩) hHeld ?_
            simp only [Act.put, List.setIfInBounds_toArray, List.set_cons_zero, List.set_cons_succ]
            refine wpAnyH_take (i := 11) (oi := _) (v := _) (by simp only [List.getElem?_toArray, List.getElem?_cons_succ, List.getElem?_cons_zero]; rfl) (by kernel_rfl) (by kernel_rfl) (by kernel_rfl) (by exact fun _ _ _ h => h) (Or.inl ⟨by rfl, by intro w' hSw; (try dsimp only at hSw); first | (go_simp; done) | (go_simp; with_reducible rfl)⟩) hHeld ?_
            simp only [Act.put, List.setIfInBounds_toArray, List.set_cons_zero, List.set_cons_succ]
            refine wpAnyH_take (i := 12) (oi := _) (v := _) (by simp only [List.getElem?_toArray, List.getElem?_cons_succ, List.getElem?_cons_zero]; rfl) (by kernel_rfl) (by kernel_rfl) (by kernel_rfl) (by exact fun _ _ _ h => h) (Or.inl ⟨by rfl, by intro w' hSw; (try dsimp only at hSw); first | (go_simp; done) | (go_simp; with_reducible rfl)⟩) hHeld ?_
            simp only [Act.put, List.setIfInBounds_toArray, List.set_cons_zero, List.set_cons_succ]
            refine wpAnyH_take (i := 13) (oi := _) (v := _) (by simp only [List.getElem?_toArray, List.getElem?_cons_succ, List.getElem?_cons_zero]; rfl) (by kernel_rfl) (by kernel_rfl) (by kernel_rfl) (by exact fun _ _ _ h => h) (Or.inl ⟨by rfl, by intro w' hSw; (try dsimp only at hSw); first | (go_simp; done) | (go_simp; with_reducible rfl)⟩) hHeld ?_
            simp only [Act.put, List.setIfInBounds_toArray, List.set_cons_zero, List.set_cons_succ]
            refine wpAnyH_take (i := 14) (oi := _) (v := _) (by simp only [List.getElem?_toArray, List.getElem?_cons_succ, List.getElem?_cons_zero]; rfl) (by kernel_rfl) (by kernel_rfl) (by kernel_rfl) (by exact fun _ _ _ h => h) (Or.inl ⟨by rfl, by intro w' hSw; (try dsimp only at hSw); first | (go_simp; done) | (go_simp; with_reducible rfl)⟩) hHeld ?_
            simp only [Act.put, List.setIfInBounds_toArray, List.set_cons_zero, List.set_cons_succ]
            refine wpAnyH_take (i := 15) (oi := _) (v := _) (by simp only [List.getElem?_toArray, List.getElem?_cons_succ, List.getElem?_cons_zero]; rfl) (by kernel_rfl) (by kernel_rfl) (by kernel_rfl) (by exact fun _ _ _ h => h) (Or.inl ⟨by rfl, by intro w' hSw; (try dsimp only at hSw); first | (go_simp; done) | (go_simp; with_reducible rfl)⟩) hHeld ?_
            simp only [Act.put, List.setIfInBounds_toArray, List.set_cons_zero, List.set_cons_succ]
            refine wpAnyH_take (i := 16) (oi := _) (v := _) (by simp only [List.getElem?_toArray, List.getElem?_cons_succ, List.getElem?_cons_zero]; rfl) (by kernel_rfl) (by kernel_rfl) (by kernel_rfl) (by exact fun _ _ _ h => h) (Or.inl ⟨by rfl, by intro w' hSw; (try dsimp only at hSw); first | (go_simp; done) | (go_simp; with_reducible rfl)⟩) hHeld ?_
            simp only [Act.put, List.setIfInBounds_toArray, List.set_cons_zero, List.set_cons_succ]
            refine wpAnyH_take (i := 17) (oi := _) (v := _) (by simp only [List.getElem?_toArray, List.getElem?_cons_succ, List.getElem?_cons_zero]; rfl) (by kernel_rfl) (by kernel_rfl) (by kernel_rfl) (by exact fun _ _ _ h => h) (Or.inl ⟨by rfl, by intro w' hSw; (try dsimp only at hSw); first | (go_simp; done) | (go_simp; with_reducible rfl)⟩) hHeld ?_
            simp only [Act.put, List.setIfInBounds_toArray, List.set_cons_zero, List.set_cons_succ]
            refine wpAnyH_ready (rs := [18]) (by kernel_rfl) (by simp) ?_
            refine AllReadyH.cons rfl (fun K hK => ?_) AllReadyH.nil
            go_simp
            go_wp2_with fail
            refine hHas.mono ?_
            rintro r wh ⟨rfl, hbh⟩
            have hbh' : Below wr.heap.size wr wh := ⟨hbh.os, hbh.tape, hbh.output, hbh.size, hbh.block⟩
            have HPH : Hid (PlaysAt w1 wh (enterF s) (T) vi2 vl) := HPQ.out.below hbh'
            have HRH : Hid (TRow wh w7.heap.size (.slice (some ⟨g8, o8, none⟩) ll c8) ((enterF s).l.map Prod.fst)) := HRQ.out.keep (fun q hq => hbh'.block q (HRQ.out.lt q hq))
            have q0 := (hbh'.cell (p := ⟨g8, o8 + j, none⟩) (lt_of_cell d0)).trans d0
            have q1 := (hbh'.cell (p := ⟨w1.heap.size + 1, 2, none⟩) (lt_of_cell m2)).trans m2
            have q2 := (hbh'.cell (p := ⟨gt, j * 2, none⟩) (lt_of_cell t0)).trans t0
            clear hbh hbh'
            refine hK.out _ _ ⟨q0, q1, q2⟩ (fun hHeld => ?_)
            clear hK K
            refine wpAnyH_take (i := 19) (oi := _) (v := _) (by simp only [List.getElem?_toArray, List.getElem?_cons_succ, List.getElem?_cons_zero]; rfl) (by kernel_rfl) (by kernel_rfl) (by kernel_rfl) (by exact fun _ _ _ h => h) (Or.inl ⟨by rfl, by intro w' hSw; (try dsimp only at hSw); first | (go_simp; done) | (go_simp; with_reducible rfl)⟩) hHeld ?_
            simp only [Act.put, List.setIfInBounds_toArray, List.set_cons_zero, List.set_cons_succ]
            refine wpAnyH_take (i := 20) (oi := _) (v := _) (by simp only [List.getElem?_toArray, List.getElem?_cons_succ, List.getElem?_cons_zero]; rfl) (by kernel_rfl) (by kernel_rfl) (by kernel_rfl) (by exact fun _ _ _ h => h) (Or.inl ⟨by rfl, by intro w' hSw; (try dsimp only at hSw); first | (go_simp; done) | (go_simp; with_reducible rfl)⟩) hHeld ?_
            simp only [Act.put, List.setIfInBounds_toArray, List.set_cons_zero, List.set_cons_succ]
            refine wpAnyH_done (by kernel_rfl) ?_ _
            clear hHeld hHas q0 q1 q2
            go_wp2_with fail
            go_roundw
            case rel => exact ⟨j + 1, by omega, by go_num, HPH.out, HRH.out⟩
            case measure => simp [intOf]; omega
          · obtain rfl : j = ll := by omega
            rw [hvq] at m2
            go_wp2_with fail
            go_roundw
            case rel => exact ⟨k + 1, enterF s, T, vi2, vl, by omega, by omega, by go_num, by have := HLS.out; show s.last + 1 ≤ ((k + 1 : Nat) : Int); omega, by have := HXL.out; omega, HPQ.out⟩
            case measure => simp [intOf]; omega
      have hkb0 : (kd == 0) = false := by rw [beq_eq_false_iff_ne]; exact hk0
      by_cases hk1 : kd = 1
      · skip
        have hkb1 : (kd == 1) = true := beq_iff_eq.2 hk1
        clear hk1
        subst hv4
        have hX := x_leave (wr := w4.drew) (HPL.out.below (Below.refl _ _).drew |>.mono (H' := fun q => DocH w1 T vi vl q ∨ q = wr.heap.size) (fun q hq => .inl hq)) xt hxtb
        have e1' : w4.cell? ⟨wr.heap.size, 1, none⟩ = some (.int .i64 xt) := e1
        go_wp2_with (at_builtin; refine wpList_append_run rfl _ _ _ rfl _ _ rfl rfl hrun ?_)
        have hLL : (leaveL s xt).length ≤ s.l.length := by unfold leaveL; rw [List.length_map, List.length_take]; omega
        have hLF : (leaveF s xt).l.length ≤ s.l.length := by show (s.l.drop _).length ≤ _; rw [List.length_drop]; omega
        have hwa : wr.heap.size < w4.heap.size := lt_of_heap HX4.out
        have hwb : wr.heap.size ≠ w1.heap.size + 1 := fun e => by have := lt_of_heap HO.out.ref.main; omega
        refine wp_region_held_drew (S := fun W => W.cell? ⟨wr.heap.size, 1, none⟩ = some (.int .i64 xt)) (by kernel_rfl) (by exact e1') (fun hHeld => ?_)
        change wpAnyH _ _ _ _ _ 9 (Array.replicate 9 false) _ _
        refine wpAnyH_take (i := 0) (oi := _) (v := _) (by simp only [List.getElem?_toArray, List.getElem?_cons_zero]; rfl) (by kernel_rfl) (by kernel_rfl) (by kernel_rfl) (by exact fun _ _ _ h => h) (Or.inl ⟨by rfl, by intro w' hSw; (try dsimp only at hSw); first | (go_simp; done) | (go_simp; with_reducible rfl)⟩) hHeld ?_
        simp only [Act.put, List.setIfInBounds_toArray, List.set_cons_zero, List.set_cons_succ]
        refine wpAnyH_take (i := 1) (oi := _) (v := _) (by simp only [List.getElem?_toArray, List.getElem?_cons_succ, List.getElem?_cons_zero]; rfl) (by kernel_rfl) (by kernel_rfl) (by kernel_rfl) (by exact fun _ _ _ h => h) (Or.inl ⟨by rfl, by intro w' hSw; (try dsimp only at hSw); first | (go_simp; done) | (go_simp; with_reducible rfl)⟩) hHeld ?_
        simp only [Act.put, List.setIfInBounds_toArray, List.set_cons_zero, List.set_cons_succ]
        refine wpAnyH_take (i := 3) (oi := _) (v := _) (by simp only [List.getElem?_toArray, List.getElem?_cons_succ, List.getElem?_cons_zero]; rfl) (by kernel_rfl) (by kernel_rfl) (by kernel_rfl) (by exact fun _ _ _ h => h) (Or.inl ⟨by rfl, by intro w' hSw; (try dsimp only at hSw); first | (go_simp; done) | (go_simp; with_reducible rfl)⟩) hHeld ?_
        simp only [Act.put, List.setIfInBounds_toArray, List.set_cons_zero, List.set_cons_succ]
        refine wpAnyH_take (i := 4) (oi := _) (v := _) (by simp only [List.getElem?_toArray, List.getElem?_cons_succ, List.getElem?_cons_zero]; rfl) (by kernel_rfl) (by kernel_rfl) (by kernel_rfl) (by exact fun _ _ _ h => h) (Or.inl ⟨by rfl, by intro w' hSw; (try dsimp only at hSw); first | (go_simp; done) | (go_simp; with_reducible rfl)⟩) hHeld ?_
        simp only [Act.put, List.setIfInBounds_toArray, List.set_cons_zero, List.set_cons_succ]
        refine wpAnyH_take (i := 5) (oi := _) (v := _) (by simp only [List.getElem?_toArray, List.getElem?_cons_succ, List.getElem?_cons_zero]; rfl) (by kernel_rfl) (by kernel_rfl) (by kernel_rfl) (by exact fun _ _ _ h => h) (Or.inl ⟨by rfl, by intro w' hSw; (try dsimp only at hSw); first | (go_simp; done) | (go_simp; with_reducible rfl)⟩) hHeld ?_
        simp only [Act.put, List.setIfInBounds_toArray, List.set_cons_zero, List.set_cons_succ]
        refine wpAnyH_ready (rs := [2]) (by kernel_rfl) (by simp) ?_
        refine AllReadyH.cons rfl (fun K hK => ?_) AllReadyH.nil
        go_simp
        go_wp2_with fail
        refine hX.mono ?_
        rintro r w5 ⟨⟨v5, rfl, r5⟩, h5, k5⟩
        have hA5 : w5.cell? ⟨wr.heap.size, 1, none⟩ = some (.int .i64 xt) := (World.cell?_of_block (a := ⟨wr.heap.size, 1, none⟩) (k5.2 _ (.inr rfl) hwa)).trans hHeld
        obtain ⟨a5, c5, hv5⟩ := r5.slice
        subst hv5
        refine hK.out _ _ hA5 (fun hHeld => ?_)
        clear hK K hX
        refine wpAnyH_ready (rs := [6]) (by kernel_rfl) (by simp) ?_
        refine AllReadyH.cons rfl (fun K hK => ?_) AllReadyH.nil
        have href5 : RefIn w5 (w1.heap.size + 1) s.last s.m T vi vl := ref_keep (HO4.out.below (Below.refl _ _).drew).ref (fun q hq => k5.2 q (.inl hq) (ref_lt (HO4.out.below (Below.refl _ _).drew).ref q hq))
        have hD := leaveR_any href5 (by have := HLL.out; have := HO4.out.len; omega) (by have := ok_mlen HO.out.play.ok; omega) (fun y hy => by have := HO4.out.bound y hy; have := ok_mlen HO.out.play.ok; omega) xt
        go_simp
        go_wp2_with fail
        refine hD.mono ?_
        rintro r w6 ⟨v6, vi6, vl6, KT, rfl, hK6, hr6, hR6, ht6, g1, g2, g3⟩
        clear hD
        obtain ⟨HPA, hemp⟩ := (HO4.out.below (Below.refl _ _).drew).leave (h5.mono (fun q hq => hq.imp Or.inl id)) hK6 hR6 ht6 g1 g2 g3
        rw [hemp] at hr6
        have r56 : TRow w6 w4.heap.size (.slice a5 (leaveL s xt).length c5) (leaveL s xt) := r5.keep (fun q hq => ht6.block q (r5.lt q hq) (fun e => by have := r5.ge q hq; have := lt_of_heap HO4.out.ref.main; have hz : w4.drew.heap.size = w4.heap.size := rfl; omega))
        have hS := same_any (.slice a5 (leaveL s xt).length c5) v6 (leaveL s xt) (leaveL s xt) r56.at hr6.at (by have := HLL.out; omega)
        rw [decide_eq_true rfl] at hS
        obtain ⟨a6, c6, hv6⟩ := hr6.slice
        have HPA6 : Hid (PlaysAt w1 w6 (leaveF s xt) (non KT) vi6 vl6) := HPA
        have hA6 : w6.cell? ⟨wr.heap.size, 1, none⟩ = some (.int .i64 xt) := (World.cell?_of_block (a := ⟨wr.heap.size, 1, none⟩) (ht6.block _ (Nat.lt_of_lt_of_le hwa k5.1) hwb)).trans hHeld
        subst hv6
        refine hK.out _ _ hA6 (fun hHeld => ?_)
        clear hK K r5 h5 k5 href5 hK6 hr6 hR6 ht6 g1 g2 g3 hemp HPA r56
        refine wpAnyH_ready (rs := [7]) (by kernel_rfl) (by simp) ?_
        refine AllReadyH.cons rfl (fun K hK => ?_) AllReadyH.nil
        go_simp
        go_wp2_with fail
        refine hS.mono ?_
        rintro r w7 ⟨rfl, hb7⟩
        have HPA7 : Hid (PlaysAt w1 w7 (leaveF s xt) (non KT) vi6 vl6) := HPA6.out.below hb7
        refine hK.out _ _ ((hb7.cell (p := ⟨wr.heap.size, 1, none⟩) (lt_of_cell hHeld)).trans hHeld) (fun hHeld => ?_)
        clear hK K hS hb7
        refine wpAnyH_take (i := 8) (oi := _) (v := _) (by simp only [List.getElem?_toArray, List.getElem?_cons_succ, List.getElem?_cons_zero]; rfl) (by kernel_rfl) (by kernel_rfl) (by kernel_rfl) (by exact fun _ _ _ h => h) (Or.inl ⟨by rfl, by intro w' hSw; (try dsimp only at hSw); first | (go_simp; done) | (go_simp; with_reducible rfl)⟩) hHeld ?_
        simp only [Act.put, List.setIfInBounds_toArray, List.set_cons_zero, List.set_cons_succ]
        refine wpAnyH_done (by kernel_rfl) ?_ _
        clear hHeld e1'
        have HX := HPA7
        have HXL : Hid ((leaveF s xt).l.length ≤ 6 * k + 6) := by have := HLL.out; show (leaveF s xt).l.length ≤ _; omega
        clear hLL hLF hwa hwb
        go_wp2_with fail
        have hHd := x_held HX.out.play
        refine hHd.mono ?_
        rintro e w8 ⟨v8, rfl, r8, hb8⟩
        clear hHd
        have HX8 : Hid (PlaysAt w1 w8 (leaveF s xt) (non KT) vi6 vl6) := HX.out.below hb8
        have HR8 : Hid (TRow w8 w7.heap.size v8 ((leaveF s xt).l.map Prod.fst)) := r8
        have hlen8 := HX8.out.len
        have hC := x_count (wr := w8.drew) (HX8.out.below (Below.refl _ _).drew).play
        have m1 := cell_of_heap HX8.out.ref.main 1 _ rfl
        have m2 := cell_of_heap HX8.out.ref.main 2 _ rfl
        obtain ⟨ia, ic, hvi⟩ := HX8.out.ref.ins.slice
        obtain ⟨ta, tc, hvl⟩ := HX8.out.ref.row.slice
        obtain ⟨a8, c8, hv8⟩ := r8.slice
        rw [List.length_map] at hv8
        rw [hlen8] at hvl
        obtain ⟨ml, hml⟩ : ∃ ml, (leaveF s xt).m.length = ml := ⟨_, rfl⟩
        obtain ⟨ll, hll⟩ : ∃ ll, (leaveF s xt).l.length = ll := ⟨_, rfl⟩
        rw [hml] at hvi hC
        rw [hll] at hvl hv8
        have HLN : Hid ((leaveF s xt).l.length = ll) := hll
        have hllb : ll ≤ 6 * k + 6 := by have := HXL.out; omega
        rw [hvi] at m1
        rw [hvl] at m2
        clear hb8 r8 hlen8 hml hll
        subst hv8
        have hne1 : (((ml : Nat) : Int) != (ml : Nat)) = false := by simp
        have hne2 : (((ll : Nat) : Int) != (ll : Nat)) = false := by simp
        go_wp2_with fail
        refine wp_region_held_drew (S := fun W => W.cell? ⟨w1.heap.size + 1, 1, none⟩ = some (.slice ia ml ic) ∧ W.cell? ⟨w1.heap.size + 1, 2, none⟩ = some (.slice ta ll tc)) (by kernel_rfl) (by exact ⟨m1, m2⟩) (fun hHeld => ?_)
        change wpAnyH _ _ _ _ _ 17 (Array.replicate 17 false) _ _
        refine wpAnyH_take (i := 1) (oi := _) (v := _) (by simp only [List.getElem?_toArray, List.getElem?_cons_succ, List.getElem?_cons_zero]; rfl) (by kernel_rfl) (by kernel_rfl) (by kernel_rfl) (by exact fun _ _ _ h => h) (Or.inl ⟨by rfl, by intro w' hSw; (try dsimp only at hSw); first | (go_simp; done) | (go_simp; with_reducible rfl)⟩) hHeld ?_
        simp only [Act.put, List.setIfInBounds_toArray, List.set_cons_zero, List.set_cons_succ]
        refine wpAnyH_take (i := 2) (oi := _) (v := _) (by simp only [List.getElem?_toArray, List.getElem?_cons_succ, List.getElem?_cons_zero]; rfl) (by kernel_rfl) (by kernel_rfl) (by kernel_rfl) (by exact fun _ _ _ h => h) (Or.inl ⟨by rfl, by intro w' hSw; (try dsimp only at hSw); first | (go_simp; done) | (go_simp; with_reducible rfl)⟩) hHeld ?_
        simp only [Act.put, List.setIfInBounds_toArray, List.set_cons_zero, List.set_cons_succ]
        refine wpAnyH_take (i := 3) (oi := _) (v := _) (by simp only [List.getElem?_toArray, List.getElem?_cons_succ, List.getElem?_cons_zero]; rfl) (by kernel_rfl) (by kernel_rfl) (by kernel_rfl) (by exact fun _ _ _ h => h) (Or.inl ⟨by rfl, by intro w' hSw; (try dsimp only at hSw); first | (go_simp; done) | (go_simp; with_reducible rfl)⟩) hHeld ?_
        simp only [Act.put, List.setIfInBounds_toArray, List.set_cons_zero, List.set_cons_succ]
        refine wpAnyH_take (i := 4) (oi := _) (v := _) (by simp only [List.getElem?_toArray, List.getElem?_cons_succ, List.getElem?_cons_zero]; rfl) (by kernel_rfl) (by kernel_rfl) (by kernel_rfl) (by exact fun _ _ _ h => h) (Or.inl ⟨by rfl, by intro w' hSw; (try dsimp only at hSw); first | (go_simp; done) | (go_simp; with_reducible rfl)⟩) hHeld ?_
        simp only [Act.put, List.setIfInBounds_toArray, List.set_cons_zero, List.set_cons_succ]
        refine wpAnyH_take (i := 5) (oi := _) (v := _) (by simp only [List.getElem?_toArray, List.getElem?_cons_succ, List.getElem?_cons_zero]; rfl) (by kernel_rfl) (by kernel_rfl) (by kernel_rfl) (by exact fun _ _ _ h => h) (Or.inl ⟨by rfl, by intro w' hSw; (try dsimp only at hSw); first | (go_simp; done) | (go_simp; with_reducible rfl)⟩) hHeld ?_
        simp only [Act.put, List.setIfInBounds_toArray, List.set_cons_zero, List.set_cons_succ]
        refine wpAnyH_ready (rs := [0]) (by kernel_rfl) (by simp) ?_
        refine AllReadyH.cons rfl (fun K hK => ?_) AllReadyH.nil
        go_simp
        go_wp2_with fail
        refine hC.mono ?_
        rintro r w9 ⟨rfl, hw9⟩
        subst hw9
        refine hK.out _ _ ⟨m1, m2⟩ (fun hHeld => ?_)
        clear hK K
        refine wpAnyH_take (i := 6) (oi := _) (v := _) (by simp only [List.getElem?_toArray, List.getElem?_cons_succ, List.getElem?_cons_zero]; rfl) (by kernel_rfl) (by kernel_rfl) (by kernel_rfl) (by exact fun _ _ _ h => h) (Or.inl ⟨by rfl, by intro w' hSw; (try dsimp only at hSw); first | (go_simp; done) | (go_simp; with_reducible rfl)⟩) hHeld ?_
        simp only [Act.put, List.setIfInBounds_toArray, List.set_cons_zero, List.set_cons_succ]
        refine wpAnyH_take (i := 7) (oi := _) (v := _) (by simp only [List.getElem?_toArray, List.getElem?_cons_succ, List.getElem?_cons_zero]; rfl) (by kernel_rfl) (by kernel_rfl) (by kernel_rfl) (by exact fun _ _ _ h => h) (Or.inl ⟨by rfl, by intro w' hSw; (try dsimp only at hSw); first | (go_simp; done) | (go_simp; with_reducible rfl)⟩) hHeld ?_
        simp only [Act.put, List.setIfInBounds_toArray, List.set_cons_zero, List.set_cons_succ]
        refine wpAnyH_take (i := 8) (oi := _) (v := _) (by simp only [List.getElem?_toArray, List.getElem?_cons_succ, List.getElem?_cons_zero]; rfl) (by kernel_rfl) (by kernel_rfl) (by kernel_rfl) (by exact fun _ _ _ h => h) (Or.inl ⟨by rfl, by intro w' hSw; (try dsimp only at hSw); first | (go_simp; done) | (go_simp; with_reducible rfl)⟩) hHeld ?_
        simp only [Act.put, List.setIfInBounds_toArray, List.set_cons_zero, List.set_cons_succ]
        refine wpAnyH_take (i := 9) (oi := _) (v := _) (by simp only [List.getElem?_toArray, List.getElem?_cons_succ, List.getElem?_cons_zero]; rfl) (by kernel_rfl) (by kernel_rfl) (by kernel_rfl) (by exact fun _ _ _ h => h) (Or.inl ⟨by rfl, by intro w' hSw; (try dsimp only at hSw); first | (go_simp; done) | (go_simp; with_reducible rfl)⟩) hHeld ?_
        simp only [Act.put, List.setIfInBounds_toArray, List.set_cons_zero, List.set_cons_succ]
        refine wpAnyH_take (i := 10) (oi := _) (v := _) (by simp only [List.getElem?_toArray, List.getElem?_cons_succ, List.getElem?_cons_zero]; rfl) (by kernel_rfl) (by kernel_rfl) (by kernel_rfl) (by exact fun _ _ _ h => h) (Or.inl ⟨by rfl, by intro w' hSw; (try dsimp only at hSw); first | (go_simp; done) | (go_simp; with_reducible rfl)⟩) hHeld ?_
        simp only [Act.put, List.setIfInBounds_toArray, List.set_cons_zero, List.set_cons_succ]
        refine wpAnyH_take (i := 11) (oi := _) (v := _) (by simp only [List.getElem?_toArray, List.getElem?_cons_succ, List.getElem?_cons_zero]; rfl) (by kernel_rfl) (by kernel_rfl) (by kernel_rfl) (by exact fun _ _ _ h => h) (Or.inl ⟨by rfl, by intro w' hSw; (try dsimp only at hSw); first | (go_simp; done) | (go_simp; with_reducible rfl)⟩) hHeld ?_
        simp only [Act.put, List.setIfInBounds_toArray, List.set_cons_zero, List.set_cons_succ]
        refine wpAnyH_take (i := 12) (oi := _) (v := _) (by simp only [List.getElem?_toArray, List.getElem?_cons_succ, List.getElem?_cons_zero]; rfl) (by kernel_rfl) (by kernel_rfl) (by kernel_rfl) (by exact fun _ _ _ h => h) (Or.inl ⟨by rfl, by intro w' hSw; (try dsimp only at hSw); first | (go_simp; done) | (go_simp; with_reducible rfl)⟩) hHeld ?_
        simp only [Act.put, List.setIfInBounds_toArray, List.set_cons_zero, List.set_cons_succ]
        refine wpAnyH_take (i := 13) (oi := _) (v := _) (by simp only [List.getElem?_toArray, List.getElem?_cons_succ, List.getElem?_cons_zero]; rfl) (by kernel_rfl) (by kernel_rfl) (by kernel_rfl) (by exact fun _ _ _ h => h) (Or.inl ⟨by rfl, by intro w' hSw; (try dsimp only at hSw); first | (go_simp; done) | (go_simp; with_reducible rfl)⟩) hHeld ?_
        simp only [Act.put, List.setIfInBounds_toArray, List.set_cons_zero, List.set_cons_succ]
        refine wpAnyH_take (i := 14) (oi := _) (v := _) (by simp only [List.getElem?_toArray, List.getElem?_cons_succ, List.getElem?_cons_zero]; rfl) (by kernel_rfl) (by kernel_rfl) (by kernel_rfl) (by exact fun _ _ _ h => h) (Or.inl ⟨by rfl, by intro w' hSw; (try dsimp only at hSw); first | (go_simp; done) | (go_simp; with_reducible rfl)⟩) hHeld ?_
        simp only [Act.put, List.setIfInBounds_toArray, List.set_cons_zero, List.set_cons_succ]
        refine wpAnyH_take (i := 15) (oi := _) (v := _) (by simp only [List.getElem?_toArray, List.getElem?_cons_succ, List.getElem?_cons_zero]; rfl) (by kernel_rfl) (by kernel_rfl) (by kernel_rfl) (by exact fun _ _ _ h => h) (Or.inl ⟨by rfl, by intro w' hSw; (try dsimp only at hSw); first | (go_simp; done) | (go_simp; with_reducible rfl)⟩) hHeld ?_
        simp only [Act.put, List.setIfInBounds_toArray, List.set_cons_zero, List.set_cons_succ]
        refine wpAnyH_take (i := 16) (oi := _) (v := _) (by simp only [List.getElem?_toArray, List.getElem?_cons_succ, List.getElem?_cons_zero]; rfl) (by kernel_rfl) (by kernel_rfl) (by kernel_rfl) (by exact fun _ _ _ h => h) (Or.inl ⟨by rfl, by intro w' hSw; (try dsimp only at hSw); first | (go_simp; done) | (go_simp; with_reducible rfl)⟩) hHeld ?_
        simp only [Act.put, List.setIfInBounds_toArray, List.set_cons_zero, List.set_cons_succ]
        refine wpAnyH_done (by kernel_rfl) ?_ _
        clear hHeld hC hne1 hne2
        have HX9 : Hid (PlaysAt w1 w8.drew (leaveF s xt) (non KT) vi6 vl6) := HX8.out.below (Below.refl _ _).drew
        have HR9 : Hid (TRow w8.drew w7.heap.size (.slice a8 ll c8) ((leaveF s xt).l.map Prod.fst)) := HR8.out.keep (fun _ _ => rfl)
        have hsz9 : w8.heap.size ≤ w8.drew.heap.size := Nat.le_refl _
        generalize w8.drew = w9 at *
        clear m1 m2 hvi hvl
        go_wp2_with fail
        go_loopw [9] (fun jv wq => ∃ j : Nat, j ≤ ll ∧ jv = .int .i64 j ∧ PlaysAt w1 wq (leaveF s xt) (non KT) vi6 vl6 ∧ TRow wq w7.heap.size (.slice a8 ll c8) ((leaveF s xt).l.map Prod.fst)) (fun jv _ => ll - (intOf jv).toNat)
        case atStart => exact ⟨0, Nat.zero_le _, rfl, HX9.out, HR9.out⟩
        case round =>
          obtain ⟨j, hj, rfl, hpq, hrq⟩ := hrel
          have HPQ : Hid (PlaysAt w1 wr (leaveF s xt) (non KT) vi6 vl6) := hpq
          have HRQ : Hid (TRow wr w7.heap.size (.slice a8 ll c8) ((leaveF s xt).l.map Prod.fst)) := hrq
          have hlt := hpq.len
          have m2 := cell_of_heap hpq.ref.main 2 _ rfl
          obtain ⟨tq, cq, hvq⟩ := hpq.ref.row.slice
          rw [hlt, HLN.out] at hvq
          clear hpq hrq
          by_cases hjl : j < ll
          · have hjs : j < (leaveF s xt).l.length := by rw [HLN.out]; exact hjl
            have hjt : j < (non KT).length := by rw [hlt]; exact hjs
            have hrow := HPQ.out.ref.row
            rw [hvq] at hrow m2
            obtain ⟨gt, hgt, hgtl, hle0, hct1, hct2, t0, t1⟩ := hrow.cell j hjt
            subst hgt
            rw [HPQ.out.thing j hjt hjs] at t0
            rcases HRQ.out.at with ⟨_, h0⟩ | ⟨g8, o8, p8, he8, hp1, hp2, hg8, hc8⟩
            · rw [List.map_eq_nil_iff] at h0
              rw [h0] at hjs
              cases hjs
            injection he8 with h81 h82 h83
            subst h81
            rw [← h83, ← h82] at hp1
            rw [← h83] at hp2
            clear h82 h83
            have d0 := hc8 j (by rw [List.length_map]; exact hjs)
            rw [List.getElem_map] at d0
            have hHas := x_has (wr := wr.drew) (HPQ.out.below (Below.refl _ _).drew).play ((leaveF s xt).l[j]).1
            rw [any_at _ j hjs] at hHas
            obtain ⟨y, hy⟩ : ∃ y, ((leaveF s xt).l[j]).1 = y := ⟨_, rfl⟩
            rw [hy] at t0 d0 hHas
            have hyy : (y != y) = false := by simp
            clear t1 hy hc8 hrow hct1 hp1 hlt hle0
            go_wp2_with fail
            refine wp_region_held_drew (S := fun W => W.cell? ⟨g8, o8 + j, none⟩ = some (.int .i64 y) ∧ W.cell? ⟨w1.heap.size + 1, 2, none⟩ = some (.slice (some ⟨gt, 0, none⟩) ll cq) ∧ W.cell? ⟨gt, j * 2, none⟩ = some (.int .i64 y)) (by kernel_rfl) (by exact ⟨d0, m2, t0⟩) (fun hHeld => ?_)
            change wpAnyH _ _ _ _ _ 21 (Array.replicate 21 false) _ _
            refine wpAnyH_take (i := 0) (oi := _) (v := _) (by simp only [List.getElem?_toArray, List.getElem?_cons_zero]; rfl) (by kernel_rfl) (by kernel_rfl) (by kernel_rfl) (by exact fun _ _ _ h => h) (Or.inl ⟨by rfl, by intro w' hSw; (try dsimp only at hSw); first | (go_simp; done) | (go_simp; with_reducible rfl)⟩) hHeld ?_
            simp only [Act.put, List.setIfInBounds_toArray, List.set_cons_zero, List.set_cons_succ]
            refine wpAnyH_take (i := 1) (oi := _) (v := _) (by simp only [List.getElem?_toArray, List.getElem?_cons_succ, List.getElem?_cons_zero]; rfl) (by kernel_rfl) (by kernel_rfl) (by kernel_rfl) (by exact fun _ _ _ h => h) (Or.inl ⟨by rfl, by intro w' hSw; (try dsimp only at hSw); first | (go_simp; done) | (go_simp; with_reducible rfl)⟩) hHeld ?_
            simp only [Act.put, List.setIfInBounds_toArray, List.set_cons_zero, List.set_cons_succ]
            refine wpAnyH_take (i := 2) (oi := _) (v := _) (by simp only [List.getElem?_toArray, List.getElem?_cons_succ, List.getElem?_cons_zero]; rfl) (by kernel_rfl) (by kernel_rfl) (by kernel_rfl) (by exact fun _ _ _ h => h) (Or.inl ⟨by rfl, by intro w' hSw; (try dsimp only at hSw); first | (go_simp; done) | (go_simp; with_reducible rfl)⟩) hHeld ?_
            simp only [Act.put, List.setIfInBounds_toArray, List.set_cons_zero, List.set_cons_succ]
            refine wpAnyH_take (i := 3) (oi := _) (v := _) (by simp only [List.getElem?_toArray, List.getElem?_cons_succ, List.getElem?_cons_zero]; rfl) (by kernel_rfl) (by kernel_rfl) (by kernel_rfl) (by exact fun _ _ _ h => h) (Or.inl ⟨by rfl, by intro w' hSw; (try dsimp only at hSw); first | (go_simp; done) | (go_simp; with_reducible rfl)⟩) hHeld ?_
            simp only [Act.put, List.setIfInBounds_toArray, List.set_cons_zero, List.set_cons_succ]
            refine wpAnyH_take (i := 4) (oi := _) (v := _) (by simp only [List.getElem?_toArray, List.getElem?_cons_succ, List.getElem?_cons_zero]; rfl) (by kernel_rfl) (by kernel_rfl) (by kernel_rfl) (by exact fun _ _ _ h => h) (Or.inl ⟨by rfl, by intro w' hSw; (try dsimp only at hSw); first | (go_simp; done) | (go_simp; with_reducible rfl)⟩) hHeld ?_
            simp only [Act.put, List.setIfInBounds_toArray, List.set_cons_zero, List.set_cons_succ]
            refine wpAnyH_take (i := 5) (oi := _) (v := _) (by simp only [List.getElem?_toArray, List.getElem?_cons_succ, List.getElem?_cons_zero]; rfl) (by kernel_rfl) (by kernel_rfl) (by kernel_rfl) (by exact fun _ _ _ h => h) (Or.inl ⟨by rfl, by intro w' hSw; (try dsimp only at hSw); first | (go_simp; done) | (go_simp; with_reducible rfl)⟩) hHeld ?_
            simp only [Act.put, List.setIfInBounds_toArray, List.set_cons_zero, List.set_cons_succ]
            refine wpAnyH_take (i := 6) (oi := _) (v := _) (by simp only [List.getElem?_toArray, List.getElem?_cons_succ, List.getElem?_cons_zero]; rfl) (by kernel_rfl) (by kernel_rfl) (by kernel_rfl) (by exact fun _ _ _ h => h) (Or.inl ⟨by rfl, by intro w' hSw; (try dsimp only at hSw); first | (go_simp; done) | (go_simp; with_reducible rfl)⟩) hHeld ?_
            simp only [Act.put, List.setIfInBounds_toArray, List.set_cons_zero, List.set_cons_succ]
            refine wpAnyH_take (i := 7) (oi := _) (v := _) (by simp only [List.getElem?_toArray, List.getElem?_cons_succ, List.getElem?_cons_zero]; rfl) (by kernel_rfl) (by kernel_rfl) (by kernel_rfl) (by exact fun _ _ _ h => h) (Or.inl ⟨by rfl, by intro w' hSw; (try dsimp only at hSw); first | (go_simp; done) | (go_simp; with_reducible rfl)⟩) hHeld ?_
            simp only [Act.put, List.setIfInBounds_toArray, List.set_cons_zero, List.set_cons_succ]
            refine wpAnyH_take (i := 8) (oi := _) (v := _) (by simp only [List.getElem?_toArray, List.getElem?_cons_succ, List.getElem?_cons_zero]; rfl) (by kernel_rfl) (by kernel_rfl) (by kernel_rfl) (by exact fun _ _ _ h => h) (Or.inl ⟨by rfl, by intro w' hSw; (try dsimp only at hSw); first | (go_simp; done) | (go_simp; with_reducible rfl)⟩) hHeld ?_
            simp only [Act.put, List.setIfInBounds_toArray, List.set_cons_zero, List.set_cons_succ]
            refine wpAnyH_take (i := 9) (oi := _) (v := _) (by simp only [List.getElem?_toArray, List.getElem?_cons_succ, List.getElem?_cons_zero]; rfl) (by kernel_rfl) (by kernel_rfl) (by kernel_rfl) (by exact fun _ _ _ h => h) (Or.inl ⟨by rfl, by intro w' hSw; (try dsimp only at hSw); first | (go_simp; done) | (go_simp; with_reducible rfl)⟩) hHeld ?_
            simp only [Act.put, List.setIfInBounds_toArray, List.set_cons_zero, List.set_cons_succ]
            refine wpAnyH_take (i := 10) (oi := _) (v := _) (by simp only [List.getElem?_toArray, List.getElem?_cons_succ, List.getElem?_cons_zero]; rfl) (by kernel_rfl) (by kernel_rfl) (by kernel_rfl) (by exact fun _ _ _ h => h) (Or.inl ⟨by rfl, by intro w' hSw; (try dsimp only at hSw); first | (go_simp; done) | (go_simp; with_reducible rfl)⟩) hHeld ?_
            simp only [Act.put, List.setIfInBounds_toArray, List.set_cons_zero, List.set_cons_succ]
            refine wpAnyH_take (i := 11) (oi := _) (v := _) (by simp only [List.getElem?_toArray, List.getElem?_cons_succ, List.getElem?_cons_zero]; rfl) (by kernel_rfl) (by kernel_rfl) (by kernel_rfl) (by exact fun _ _ _ h => h) (Or.inl ⟨by rfl, by intro w' hSw; (try dsimp only at hSw); first | (go_simp; done) | (go_simp; with_reducible rfl)⟩) hHeld ?_
            simp only [Act.put, List.setIfInBounds_toArray, List.set_cons_zero, List.set_cons_succ]
            refine wpAnyH_take (i := 12) (oi := _) (v := _) (by simp only [List.getElem?_toArray, List.getElem?_cons_succ, List.getElem?_cons_zero]; rfl) (by kernel_rfl) (by kernel_rfl) (by kernel_rfl) (by exact fun _ _ _ h => h) (Or.inl ⟨by rfl, by intro w' hSw; (try dsimp only at hSw); first | (go_simp; done) | (go_simp; with_reducible rfl)⟩) hHeld ?_
            simp only [Act.put, List.setIfInBounds_toArray, List.set_cons_zero, List.set_cons_succ]
            refine wpAnyH_take (i := 13) (oi := _) (v := _) (by simp only [List.getElem?_toArray, List.getElem?_cons_succ, List.getElem?_cons_zero]; rfl) (by kernel_rfl) (by kernel_rfl) (by kernel_rfl) (by exact fun _ _ _ h => h) (Or.inl ⟨by rfl, by intro w' hSw; (try dsimp only at hSw); first | (go_simp; done) | (go_simp; with_reducible rfl)⟩) hHeld ?_
            simp only [Act.put, List.setIfInBounds_toArray, List.set_cons_zero, List.set_cons_succ]
            refine wpAnyH_take (i := 14) (oi := _) (v := _) (by simp only [List.getElem?_toArray, List.getElem?_cons_succ, List.getElem?_cons_zero]; rfl) (by kernel_rfl) (by kernel_rfl) (by kernel_rfl) (by exact fun _ _ _ h => h) (Or.inl ⟨by rfl, by intro w' hSw; (try dsimp only at hSw); first | (go_simp; done) | (go_simp; with_reducible rfl)⟩) hHeld ?_
            simp only [Act.put, List.setIfInBounds_toArray, List.set_cons_zero, List.set_cons_succ]
            refine wpAnyH_take (i := 15) (oi := _) (v := _) (by simp only [List.getElem?_toArray, List.getElem?_cons_succ, List.getElem?_cons_zero]; rfl) (by kernel_rfl) (by kernel_rfl) (by kernel_rfl) (by exact fun _ _ _ h => h) (Or.inl ⟨by rfl, by intro w' hSw; (try dsimp only at hSw); first | (go_simp; done) | (go_simp; with_reducible rfl)⟩) hHeld ?_
            simp only [Act.put, List.setIfInBounds_toArray, List.set_cons_zero, List.set_cons_succ]
            refine wpAnyH_take (i := 16) (oi := _) (v := _) (by simp only [List.getElem?_toArray, List.getElem?_cons_succ, List.getElem?_cons_zero]; rfl) (by kernel_rfl) (by kernel_rfl) (by kernel_rfl) (by exact fun _ _ _ h => h) (Or.inl ⟨by rfl, by intro w' hSw; (try dsimp only at hSw); first | (go_simp; done) | (go_simp; with_reducible rfl)⟩) hHeld ?_
            simp only [Act.put, List.setIfInBounds_toArray, List.set_cons_zero, List.set_cons_succ]
            refine wpAnyH_take (i := 17) (oi := _) (v := _) (by simp only [List.getElem?_toArray, List.getElem?_cons_succ, List.getElem?_cons_zero]; rfl) (by kernel_rfl) (by kernel_rfl) (by kernel_rfl) (by exact fun _ _ _ h => h) (Or.inl ⟨by rfl, by intro w' hSw; (try dsimp only at hSw); first | (go_simp; done) | (go_simp; with_reducible rfl)⟩) hHeld ?_
            simp only [Act.put, List.setIfInBounds_toArray, List.set_cons_zero, List.set_cons_succ]
            refine wpAnyH_ready (rs := [18]) (by kernel_rfl) (by simp) ?_
            refine AllReadyH.cons rfl (fun K hK => ?_) AllReadyH.nil
            go_simp
            go_wp2_with fail
            refine hHas.mono ?_
            rintro r wh ⟨rfl, hbh⟩
            have hbh' : Below wr.heap.size wr wh := ⟨hbh.os, hbh.tape, hbh.output, hbh.size, hbh.block⟩
            have HPH : Hid (PlaysAt w1 wh (leaveF s xt) (non KT) vi6 vl6) := HPQ.out.below hbh'
            have HRH : Hid (TRow wh w7.heap.size (.slice (some ⟨g8, o8, none⟩) ll c8) ((leaveF s xt).l.map Prod.fst)) := HRQ.out.keep (fun q hq => hbh'.block q (HRQ.out.lt q hq))
            have q0 := (hbh'.cell (p := ⟨g8, o8 + j, none⟩) (lt_of_cell d0)).trans d0
            have q1 := (hbh'.cell (p := ⟨w1.heap.size + 1, 2, none⟩) (lt_of_cell m2)).trans m2
            have q2 := (hbh'.cell (p := ⟨gt, j * 2, none⟩) (lt_of_cell t0)).trans t0
            clear hbh hbh'
            refine hK.out _ _ ⟨q0, q1, q2⟩ (fun hHeld => ?_)
            clear hK K
            refine wpAnyH_take (i := 19) (oi := _) (v := _) (by simp only [List.getElem?_toArray, List.getElem?_cons_succ, List.getElem?_cons_zero]; rfl) (by kernel_rfl) (by kernel_rfl) (by kernel_rfl) (by exact fun _ _ _ h => h) (Or.inl ⟨by rfl, by intro w' hSw; (try dsimp only at hSw); first | (go_simp; done) | (go_simp; with_reducible rfl)⟩) hHeld ?_
            simp only [Act.put, List.setIfInBounds_toArray, List.set_cons_zero, List.set_cons_succ]
            refine wpAnyH_take (i := 20) (oi := _) (v := _) (by simp only [List.getElem?_toArray, List.getElem?_cons_succ, List.getElem?_cons_zero]; rfl) (by kernel_rfl) (by kernel_rfl) (by kernel_rfl) (by exact fun _ _ _ h => h) (Or.inl ⟨by rfl, by intro w' hSw; (try dsimp only at hSw); first | (go_simp; done) | (go_simp; with_reducible rfl)⟩) hHeld ?_
            simp only [Act.put, List.setIfInBounds_toArray, List.set_cons_zero, List.set_cons_succ]
            refine wpAnyH_done (by kernel_rfl) ?_ _
            clear hHeld hHas q0 q1 q2
            go_wp2_with fail
            go_roundw
            case rel => exact ⟨j + 1, by omega, by go_num, HPH.out, HRH.out⟩
            case measure => simp [intOf]; omega
          · obtain rfl : j = ll := by omega
            rw [hvq] at m2
            go_wp2_with fail
            go_roundw
            case rel => exact ⟨k + 1, leaveF s xt, non KT, vi6, vl6, by omega, by omega, by go_num, by have := HLS.out; show s.last ≤ ((k + 1 : Nat) : Int); omega, by have := HXL.out; omega, HPQ.out⟩
            case measure => simp [intOf]; omega
      have hkb1 : (kd == 1) = false := by rw [beq_eq_false_iff_ne]; exact hk1
      clear hk0 hk1
      subst hv4
      by_cases hm : s.m = []
      · skip
        have hX := x_drop0 HO4.out.play hm (.slice a4 xs.length c4) xs hdx (by omega)
        go_wp2_with (at_builtin; refine wpList_append_run rfl _ _ _ rfl _ _ rfl rfl hrun ?_)
        refine hX.mono ?_
        rintro e w5 ⟨v5, rfl, r5, hb5⟩
        clear hX
        have hw45 : w4.heap.size ≤ w5.heap.size := hb5.size
        have hO5 := HO4.out.below hb5
        have hr5 : TRow w5 w3.heap.size (.slice a4 xs.length c4) xs := HR4.out.keep (fun q hq => hb5.block q (HR4.out.lt q hq))
        have hD := dropR_any hO5.ref (.slice a4 xs.length c4) xs hr5.at (fun g hg => by have := hr5.ge g hg; omega) (by have := HLL.out; have := HO4.out.len; omega) (by have := ok_mlen HO.out.play.ok; omega)
        obtain ⟨a5, c5, hv5⟩ := r5.slice
        subst hv5
        go_wp2_with fail
        refine hD.mono ?_
        rintro e w6 ⟨v6, vl6, KT, rfl, hK, hr6, hR6, ht6, g2, g3⟩
        clear hD
        obtain ⟨HPA, hemp⟩ := hO5.drop0 hm hK hR6 ht6 g2 g3
        rw [hemp] at hr6
        have r56 : TRow w6 w4.heap.size (.slice a5 xs.length c5) xs := r5.keep (fun q hq => ht6.block q (r5.lt q hq) (fun e => by have := r5.ge q hq; have := lt_of_heap HO4.out.ref.main; omega))
        have hS := same_any (.slice a5 xs.length c5) v6 xs xs r56.at hr6.at (by omega)
        obtain ⟨a6, c6, hv6⟩ := hr6.slice
        have HPA6 : Hid (PlaysAt w1 w6 s (non KT) vi vl6) := HPA
        subst hv6
        clear hb5 r5 hr5 r56 hK hr6 hR6 ht6 g2 g3 hemp HPA hO5 hw45
        go_wp2_with fail
        refine hS.mono ?_
        rintro e w7 ⟨rfl, hb7⟩
        clear hS
        have HPA7 : Hid (PlaysAt w1 w7 s (non KT) vi vl6) := HPA6.out.below hb7
        clear hb7
        have hsame : decide (xs = xs) = true := decide_eq_true rfl
        go_wp2_with fail
        have HX := HPA7
        have HXL : Hid (s.l.length ≤ 6 * k + 6) := by have := HLL.out; show s.l.length ≤ _; omega
        go_wp2_with fail
        have hHd := x_held HX.out.play
        refine hHd.mono ?_
        rintro e w8 ⟨v8, rfl, r8, hb8⟩
        clear hHd
        have HX8 : Hid (PlaysAt w1 w8 (s) (non KT) vi vl6) := HX.out.below hb8
        have HR8 : Hid (TRow w8 w7.heap.size v8 ((s).l.map Prod.fst)) := r8
        have hlen8 := HX8.out.len
        have hC := x_count (wr := w8.drew) (HX8.out.below (Below.refl _ _).drew).play
        have m1 := cell_of_heap HX8.out.ref.main 1 _ rfl
        have m2 := cell_of_heap HX8.out.ref.main 2 _ rfl
        obtain ⟨ia, ic, hvi⟩ := HX8.out.ref.ins.slice
        obtain ⟨ta, tc, hvl⟩ := HX8.out.ref.row.slice
        obtain ⟨a8, c8, hv8⟩ := r8.slice
        rw [List.length_map] at hv8
        rw [hlen8] at hvl
        obtain ⟨ml, hml⟩ : ∃ ml, (s).m.length = ml := ⟨_, rfl⟩
        obtain ⟨ll, hll⟩ : ∃ ll, (s).l.length = ll := ⟨_, rfl⟩
        rw [hml] at hvi hC
        rw [hll] at hvl hv8
        have HLN : Hid ((s).l.length = ll) := hll
        have hllb : ll ≤ 6 * k + 6 := by have := HXL.out; omega
        rw [hvi] at m1
        rw [hvl] at m2
        clear hb8 r8 hlen8 hml hll
        subst hv8
        have hne1 : (((ml : Nat) : Int) != (ml : Nat)) = false := by simp
        have hne2 : (((ll : Nat) : Int) != (ll : Nat)) = false := by simp
        go_wp2_with fail
        refine wp_region_held_drew (S := fun W => W.cell? ⟨w1.heap.size + 1, 1, none⟩ = some (.slice ia ml ic) ∧ W.cell? ⟨w1.heap.size + 1, 2, none⟩ = some (.slice ta ll tc)) (by kernel_rfl) (by exact ⟨m1, m2⟩) (fun hHeld => ?_)
        change wpAnyH _ _ _ _ _ 17 (Array.replicate 17 false) _ _
        refine wpAnyH_take (i := 1) (oi := _) (v := _) (by simp only [List.getElem?_toArray, List.getElem?_cons_succ, List.getElem?_cons_zero]; rfl) (by kernel_rfl) (by kernel_rfl) (by kernel_rfl) (by exact fun _ _ _ h => h) (Or.inl ⟨by rfl, by intro w' hSw; (try dsimp only at hSw); first | (go_simp; done) | (go_simp; with_reducible rfl)⟩) hHeld ?_
        simp only [Act.put, List.setIfInBounds_toArray, List.set_cons_zero, List.set_cons_succ]
        refine wpAnyH_take (i := 2) (oi := _) (v := _) (by simp only [List.getElem?_toArray, List.getElem?_cons_succ, List.getElem?_cons_zero]; rfl) (by kernel_rfl) (by kernel_rfl) (by kernel_rfl) (by exact fun _ _ _ h => h) (Or.inl ⟨by rfl, by intro w' hSw; (try dsimp only at hSw); first | (go_simp; done) | (go_simp; with_reducible rfl)⟩) hHeld ?_
        simp only [Act.put, List.setIfInBounds_toArray, List.set_cons_zero, List.set_cons_succ]
        refine wpAnyH_take (i := 3) (oi := _) (v := _) (by simp only [List.getElem?_toArray, List.getElem?_cons_succ, List.getElem?_cons_zero]; rfl) (by kernel_rfl) (by kernel_rfl) (by kernel_rfl) (by exact fun _ _ _ h => h) (Or.inl ⟨by rfl, by intro w' hSw; (try dsimp only at hSw); first | (go_simp; done) | (go_simp; with_reducible rfl)⟩) hHeld ?_
        simp only [Act.put, List.setIfInBounds_toArray, List.set_cons_zero, List.set_cons_succ]
        refine wpAnyH_take (i := 4) (oi := _) (v := _) (by simp only [List.getElem?_toArray, List.getElem?_cons_succ, List.getElem?_cons_zero]; rfl) (by kernel_rfl) (by kernel_rfl) (by kernel_rfl) (by exact fun _ _ _ h => h) (Or.inl ⟨by rfl, by intro w' hSw; (try dsimp only at hSw); first | (go_simp; done) | (go_simp; with_reducible rfl)⟩) hHeld ?_
        simp only [Act.put, List.setIfInBounds_toArray, List.set_cons_zero, List.set_cons_succ]
        refine wpAnyH_take (i := 5) (oi := _) (v := _) (by simp only [List.getElem?_toArray, List.getElem?_cons_succ, List.getElem?_cons_zero]; rfl) (by kernel_rfl) (by kernel_rfl) (by kernel_rfl) (by exact fun _ _ _ h => h) (Or.inl ⟨by rfl, by intro w' hSw; (try dsimp only at hSw); first | (go_simp; done) | (go_simp; with_reducible rfl)⟩) hHeld ?_
        simp only [Act.put, List.setIfInBounds_toArray, List.set_cons_zero, List.set_cons_succ]
        refine wpAnyH_ready (rs := [0]) (by kernel_rfl) (by simp) ?_
        refine AllReadyH.cons rfl (fun K hK => ?_) AllReadyH.nil
        go_simp
        go_wp2_with fail
        refine hC.mono ?_
        rintro r w9 ⟨rfl, hw9⟩
        subst hw9
        refine hK.out _ _ ⟨m1, m2⟩ (fun hHeld => ?_)
        clear hK K
        refine wpAnyH_take (i := 6) (oi := _) (v := _) (by simp only [List.getElem?_toArray, List.getElem?_cons_succ, List.getElem?_cons_zero]; rfl) (by kernel_rfl) (by kernel_rfl) (by kernel_rfl) (by exact fun _ _ _ h => h) (Or.inl ⟨by rfl, by intro w' hSw; (try dsimp only at hSw); first | (go_simp; done) | (go_simp; with_reducible rfl)⟩) hHeld ?_
        simp only [Act.put, List.setIfInBounds_toArray, List.set_cons_zero, List.set_cons_succ]
        refine wpAnyH_take (i := 7) (oi := _) (v := _) (by simp only [List.getElem?_toArray, List.getElem?_cons_succ, List.getElem?_cons_zero]; rfl) (by kernel_rfl) (by kernel_rfl) (by kernel_rfl) (by exact fun _ _ _ h => h) (Or.inl ⟨by rfl, by intro w' hSw; (try dsimp only at hSw); first | (go_simp; done) | (go_simp; with_reducible rfl)⟩) hHeld ?_
        simp only [Act.put, List.setIfInBounds_toArray, List.set_cons_zero, List.set_cons_succ]
        refine wpAnyH_take (i := 8) (oi := _) (v := _) (by simp only [List.getElem?_toArray, List.getElem?_cons_succ, List.getElem?_cons_zero]; rfl) (by kernel_rfl) (by kernel_rfl) (by kernel_rfl) (by exact fun _ _ _ h => h) (Or.inl ⟨by rfl, by intro w' hSw; (try dsimp only at hSw); first | (go_simp; done) | (go_simp; with_reducible rfl)⟩) hHeld ?_
        simp only [Act.put, List.setIfInBounds_toArray, List.set_cons_zero, List.set_cons_succ]
        refine wpAnyH_take (i := 9) (oi := _) (v := _) (by simp only [List.getElem?_toArray, List.getElem?_cons_succ, List.getElem?_cons_zero]; rfl) (by kernel_rfl) (by kernel_rfl) (by kernel_rfl) (by exact fun _ _ _ h => h) (Or.inl ⟨by rfl, by intro w' hSw; (try dsimp only at hSw); first | (go_simp; done) | (go_simp; with_reducible rfl)⟩) hHeld ?_
        simp only [Act.put, List.setIfInBounds_toArray, List.set_cons_zero, List.set_cons_succ]
        refine wpAnyH_take (i := 10) (oi := _) (v := _) (by simp only [List.getElem?_toArray, List.getElem?_cons_succ, List.getElem?_cons_zero]; rfl) (by kernel_rfl) (by kernel_rfl) (by kernel_rfl) (by exact fun _ _ _ h => h) (Or.inl ⟨by rfl, by intro w' hSw; (try dsimp only at hSw); first | (go_simp; done) | (go_simp; with_reducible rfl)⟩) hHeld ?_
        simp only [Act.put, List.setIfInBounds_toArray, List.set_cons_zero, List.set_cons_succ]
        refine wpAnyH_take (i := 11) (oi := _) (v := _) (by simp only [List.getElem?_toArray, List.getElem?_cons_succ, List.getElem?_cons_zero]; rfl) (by kernel_rfl) (by kernel_rfl) (by kernel_rfl) (by exact fun _ _ _ h => h) (Or.inl ⟨by rfl, by intro w' hSw; (try dsimp only at hSw); first | (go_simp; done) | (go_simp; with_reducible rfl)⟩) hHeld ?_
        simp only [Act.put, List.setIfInBounds_toArray, List.set_cons_zero, List.set_cons_succ]
        refine wpAnyH_take (i := 12) (oi := _) (v := _) (by simp only [List.getElem?_toArray, List.getElem?_cons_succ, List.getElem?_cons_zero]; rfl) (by kernel_rfl) (by kernel_rfl) (by kernel_rfl) (by exact fun _ _ _ h => h) (Or.inl ⟨by rfl, by intro w' hSw; (try dsimp only at hSw); first | (go_simp; done) | (go_simp; with_reducible rfl)⟩) hHeld ?_
        simp only [Act.put, List.setIfInBounds_toArray, List.set_cons_zero, List.set_cons_succ]
        refine wpAnyH_take (i := 13) (oi := _) (v := _) (by simp only [List.getElem?_toArray, List.getElem?_cons_succ, List.getElem?_cons_zero]; rfl) (by kernel_rfl) (by kernel_rfl) (by kernel_rfl) (by exact fun _ _ _ h => h) (Or.inl ⟨by rfl, by intro w' hSw; (try dsimp only at hSw); first | (go_simp; done) | (go_simp; with_reducible rfl)⟩) hHeld ?_
        simp only [Act.put, List.setIfInBounds_toArray, List.set_cons_zero, List.set_cons_succ]
        refine wpAnyH_take (i := 14) (oi := _) (v := _) (by simp only [List.getElem?_toArray, List.getElem?_cons_succ, List.getElem?_cons_zero]; rfl) (by kernel_rfl) (by kernel_rfl) (by kernel_rfl) (by exact fun _ _ _ h => h) (Or.inl ⟨by rfl, by intro w' hSw; (try dsimp only at hSw); first | (go_simp; done) | (go_simp; with_reducible rfl)⟩) hHeld ?_
        simp only [Act.put, List.setIfInBounds_toArray, List.set_cons_zero, List.set_cons_succ]
        refine wpAnyH_take (i := 15) (oi := _) (v := _) (by simp only [List.getElem?_toArray, List.getElem?_cons_succ, List.getElem?_cons_zero]; rfl) (by kernel_rfl) (by kernel_rfl) (by kernel_rfl) (by exact fun _ _ _ h => h) (Or.inl ⟨by rfl, by intro w' hSw; (try dsimp only at hSw); first | (go_simp; done) | (go_simp; with_reducible rfl)⟩) hHeld ?_
        simp only [Act.put, List.setIfInBounds_toArray, List.set_cons_zero, List.set_cons_succ]
        refine wpAnyH_take (i := 16) (oi := _) (v := _) (by simp only [List.getElem?_toArray, List.getElem?_cons_succ, List.getElem?_cons_zero]; rfl) (by kernel_rfl) (by kernel_rfl) (by kernel_rfl) (by exact fun _ _ _ h => h) (Or.inl ⟨by rfl, by intro w' hSw; (try dsimp only at hSw); first | (go_simp; done) | (go_simp; with_reducible rfl)⟩) hHeld ?_
        simp only [Act.put, List.setIfInBounds_toArray, List.set_cons_zero, List.set_cons_succ]
        refine wpAnyH_done (by kernel_rfl) ?_ _
        clear hHeld hC hne1 hne2
        have HX9 : Hid (PlaysAt w1 w8.drew (s) (non KT) vi vl6) := HX8.out.below (Below.refl _ _).drew
        have HR9 : Hid (TRow w8.drew w7.heap.size (.slice a8 ll c8) ((s).l.map Prod.fst)) := HR8.out.keep (fun _ _ => rfl)
        have hsz9 : w8.heap.size ≤ w8.drew.heap.size := Nat.le_refl _
        generalize w8.drew = w9 at *
        clear m1 m2 hvi hvl
        go_wp2_with fail
        go_loopw [9] (fun jv wq => ∃ j : Nat, j ≤ ll ∧ jv = .int .i64 j ∧ PlaysAt w1 wq (s) (non KT) vi vl6 ∧ TRow wq w7.heap.size (.slice a8 ll c8) ((s).l.map Prod.fst)) (fun jv _ => ll - (intOf jv).toNat)
        case atStart => exact ⟨0, Nat.zero_le _, rfl, HX9.out, HR9.out⟩
        case round =>
          obtain ⟨j, hj, rfl, hpq, hrq⟩ := hrel
          have HPQ : Hid (PlaysAt w1 wr (s) (non KT) vi vl6) := hpq
          have HRQ : Hid (TRow wr w7.heap.size (.slice a8 ll c8) ((s).l.map Prod.fst)) := hrq
          have hlt := hpq.len
          have m2 := cell_of_heap hpq.ref.main 2 _ rfl
          obtain ⟨tq, cq, hvq⟩ := hpq.ref.row.slice
          rw [hlt, HLN.out] at hvq
          clear hpq hrq
          by_cases hjl : j < ll
          · have hjs : j < (s).l.length := by rw [HLN.out]; exact hjl
            have hjt : j < (non KT).length := by rw [hlt]; exact hjs
            have hrow := HPQ.out.ref.row
            rw [hvq] at hrow m2
            obtain ⟨gt, hgt, hgtl, hle0, hct1, hct2, t0, t1⟩ := hrow.cell j hjt
            subst hgt
            rw [HPQ.out.thing j hjt hjs] at t0
            rcases HRQ.out.at with ⟨_, h0⟩ | ⟨g8, o8, p8, he8, hp1, hp2, hg8, hc8⟩
            · rw [List.map_eq_nil_iff] at h0
              rw [h0] at hjs
              cases hjs
            injection he8 with h81 h82 h83
            subst h81
            rw [← h83, ← h82] at hp1
            rw [← h83] at hp2
            clear h82 h83
            have d0 := hc8 j (by rw [List.length_map]; exact hjs)
            rw [List.getElem_map] at d0
            have hHas := x_has (wr := wr.drew) (HPQ.out.below (Below.refl _ _).drew).play ((s).l[j]).1
            rw [any_at _ j hjs] at hHas
            obtain ⟨y, hy⟩ : ∃ y, ((s).l[j]).1 = y := ⟨_, rfl⟩
            rw [hy] at t0 d0 hHas
            have hyy : (y != y) = false := by simp
            clear t1 hy hc8 hrow hct1 hp1 hlt hle0
            go_wp2_with fail
            refine wp_region_held_drew (S := fun W => W.cell? ⟨g8, o8 + j, none⟩ = some (.int .i64 y) ∧ W.cell? ⟨w1.heap.size + 1, 2, none⟩ = some (.slice (some ⟨gt, 0, none⟩) ll cq) ∧ W.cell? ⟨gt, j * 2, none⟩ = some (.int .i64 y)) (by kernel_rfl) (by exact ⟨d0, m2, t0⟩) (fun hHeld => ?_)
            change wpAnyH _ _ _ _ _ 21 (Array.replicate 21 false) _ _
            refine wpAnyH_take (i := 0) (oi := _) (v := _) (by simp only [List.getElem?_toArray, List.getElem?_cons_zero]; rfl) (by kernel_rfl) (by kernel_rfl) (by kernel_rfl) (by exact fun _ _ _ h => h) (Or.inl ⟨by rfl, by intro w' hSw; (try dsimp only at hSw); first | (go_simp; done) | (go_simp; with_reducible rfl)⟩) hHeld ?_
            simp only [Act.put, List.setIfInBounds_toArray, List.set_cons_zero, List.set_cons_succ]
            refine wpAnyH_take (i := 1) (oi := _) (v := _) (by simp only [List.getElem?_toArray, List.getElem?_cons_succ, List.getElem?_cons_zero]; rfl) (by kernel_rfl) (by kernel_rfl) (by kernel_rfl) (by exact fun _ _ _ h => h) (Or.inl ⟨by rfl, by intro w' hSw; (try dsimp only at hSw); first | (go_simp; done) | (go_simp; with_reducible rfl)⟩) hHeld ?_
            simp only [Act.put, List.setIfInBounds_toArray, List.set_cons_zero, List.set_cons_succ]
            refine wpAnyH_take (i := 2) (oi := _) (v := _) (by simp only [List.getElem?_toArray, List.getElem?_cons_succ, List.getElem?_cons_zero]; rfl) (by kernel_rfl) (by kernel_rfl) (by kernel_rfl) (by exact fun _ _ _ h => h) (Or.inl ⟨by rfl, by intro w' hSw; (try dsimp only at hSw); first | (go_simp; done) | (go_simp; with_reducible rfl)⟩) hHeld ?_
            simp only [Act.put, List.setIfInBounds_toArray, List.set_cons_zero, List.set_cons_succ]
            refine wpAnyH_take (i := 3) (oi := _) (v := _) (by simp only [List.getElem?_toArray, List.getElem?_cons_succ, List.getElem?_cons_zero]; rfl) (by kernel_rfl) (by kernel_rfl) (by kernel_rfl) (by exact fun _ _ _ h => h) (Or.inl ⟨by rfl, by intro w' hSw; (try dsimp only at hSw); first | (go_simp; done) | (go_simp; with_reducible rfl)⟩) hHeld ?_
            simp only [Act.put, List.setIfInBounds_toArray, List.set_cons_zero, List.set_cons_succ]
            refine wpAnyH_take (i := 4) (oi := _) (v := _) (by simp only [List.getElem?_toArray, List.getElem?_cons_succ, List.getElem?_cons_zero]; rfl) (by kernel_rfl) (by kernel_rfl) (by kernel_rfl) (by exact fun _ _ _ h => h) (Or.inl ⟨by rfl, by intro w' hSw; (try dsimp only at hSw); first | (go_simp; done) | (go_simp; with_reducible rfl)⟩) hHeld ?_
            simp only [Act.put, List.setIfInBounds_toArray, List.set_cons_zero, List.set_cons_succ]
            refine wpAnyH_take (i := 5) (oi := _) (v := _) (by simp only [List.getElem?_toArray, List.getElem?_cons_succ, List.getElem?_cons_zero]; rfl) (by kernel_rfl) (by kernel_rfl) (by kernel_rfl) (by exact fun _ _ _ h => h) (Or.inl ⟨by rfl, by intro w' hSw; (try dsimp only at hSw); first | (go_simp; done) | (go_simp; with_reducible rfl)⟩) hHeld ?_
            simp only [Act.put, List.setIfInBounds_toArray, List.set_cons_zero, List.set_cons_succ]
            refine wpAnyH_take (i := 6) (oi := _) (v := _) (by simp only [List.getElem?_toArray, List.getElem?_cons_succ, List.getElem?_cons_zero]; rfl) (by kernel_rfl) (by kernel_rfl) (by kernel_rfl) (by exact fun _ _ _ h => h) (Or.inl ⟨by rfl, by intro w' hSw; (try dsimp only at hSw); first | (go_simp; done) | (go_simp; with_reducible rfl)⟩) hHeld ?_
            simp only [Act.put, List.setIfInBounds_toArray, List.set_cons_zero, List.set_cons_succ]
            refine wpAnyH_take (i := 7) (oi := _) (v := _) (by simp only [List.getElem?_toArray, List.getElem?_cons_succ, List.getElem?_cons_zero]; rfl) (by kernel_rfl) (by kernel_rfl) (by kernel_rfl) (by exact fun _ _ _ h => h) (Or.inl ⟨by rfl, by intro w' hSw; (try dsimp only at hSw); first | (go_simp; done) | (go_simp; with_reducible rfl)⟩) hHeld ?_
            simp only [Act.put, List.setIfInBounds_toArray, List.set_cons_zero, List.set_cons_succ]
            refine wpAnyH_take (i := 8) (oi := _) (v := _) (by simp only [List.getElem?_toArray, List.getElem?_cons_succ, List.getElem?_cons_zero]; rfl) (by kernel_rfl) (by kernel_rfl) (by kernel_rfl) (by exact fun _ _ _ h => h) (Or.inl ⟨by rfl, by intro w' hSw; (try dsimp only at hSw); first | (go_simp; done) | (go_simp; with_reducible rfl)⟩) hHeld ?_
            simp only [Act.put, List.setIfInBounds_toArray, List.set_cons_zero, List.set_cons_succ]
            refine wpAnyH_take (i := 9) (oi := _) (v := _) (by simp only [List.getElem?_toArray, List.getElem?_cons_succ, List.getElem?_cons_zero]; rfl) (by kernel_rfl) (by kernel_rfl) (by kernel_rfl) (by exact fun _ _ _ h => h) (Or.inl ⟨by rfl, by intro w' hSw; (try dsimp only at hSw); first | (go_simp; done) | (go_simp; with_reducible rfl)⟩) hHeld ?_
            simp only [Act.put, List.setIfInBounds_toArray, List.set_cons_zero, List.set_cons_succ]
            refine wpAnyH_take (i := 10) (oi := _) (v := _) (by simp only [List.getElem?_toArray, List.getElem?_cons_succ, List.getElem?_cons_zero]; rfl) (by kernel_rfl) (by kernel_rfl) (by kernel_rfl) (by exact fun _ _ _ h => h) (Or.inl ⟨by rfl, by intro w' hSw; (try dsimp only at hSw); first | (go_simp; done) | (go_simp; with_reducible rfl)⟩) hHeld ?_
            simp only [Act.put, List.setIfInBounds_toArray, List.set_cons_zero, List.set_cons_succ]
            refine wpAnyH_take (i := 11) (oi := _) (v := _) (by simp only [List.getElem?_toArray, List.getElem?_cons_succ, List.getElem?_cons_zero]; rfl) (by kernel_rfl) (by kernel_rfl) (by kernel_rfl) (by exact fun _ _ _ h => h) (Or.inl ⟨by rfl, by intro w' hSw; (try dsimp only at hSw); first | (go_simp; done) | (go_simp; with_reducible rfl)⟩) hHeld ?_
            simp only [Act.put, List.setIfInBounds_toArray, List.set_cons_zero, List.set_cons_succ]
            refine wpAnyH_take (i := 12) (oi := _) (v := _) (by simp only [List.getElem?_toArray, List.getElem?_cons_succ, List.getElem?_cons_zero]; rfl) (by kernel_rfl) (by kernel_rfl) (by kernel_rfl) (by exact fun _ _ _ h => h) (Or.inl ⟨by rfl, by intro w' hSw; (try dsimp only at hSw); first | (go_simp; done) | (go_simp; with_reducible rfl)⟩) hHeld ?_
            simp only [Act.put, List.setIfInBounds_toArray, List.set_cons_zero, List.set_cons_succ]
            refine wpAnyH_take (i := 13) (oi := _) (v := _) (by simp only [List.getElem?_toArray, List.getElem?_cons_succ, List.getElem?_cons_zero]; rfl) (by kernel_rfl) (by kernel_rfl) (by kernel_rfl) (by exact fun _ _ _ h => h) (Or.inl ⟨by rfl, by intro w' hSw; (try dsimp only at hSw); first | (go_simp; done) | (go_simp; with_reducible rfl)⟩) hHeld ?_
            simp only [Act.put, List.setIfInBounds_toArray, List.set_cons_zero, List.set_cons_succ]
            refine wpAnyH_take (i := 14) (oi := _) (v := _) (by simp only [List.getElem?_toArray, List.getElem?_cons_succ, List.getElem?_cons_zero]; rfl) (by kernel_rfl) (by kernel_rfl) (by kernel_rfl) (by exact fun _ _ _ h => h) (Or.inl ⟨by rfl, by intro w' hSw; (try dsimp only at hSw); first | (go_simp; done) | (go_simp; with_reducible rfl)⟩) hHeld ?_
            simp only [Act.put, List.setIfInBounds_toArray, List.set_cons_zero, List.set_cons_succ]
            refine wpAnyH_take (i := 15) (oi := _) (v := _) (by simp only [List.getElem?_toArray, List.getElem?_cons_succ, List.getElem?_cons_zero]; rfl) (by kernel_rfl) (by kernel_rfl) (by kernel_rfl) (by exact fun _ _ _ h => h) (Or.inl ⟨by rfl, by intro w' hSw; (try dsimp only at hSw); first | (go_simp; done) | (go_simp; with_reducible rfl)⟩) hHeld ?_
            simp only [Act.put, List.setIfInBounds_toArray, List.set_cons_zero, List.set_cons_succ]
            refine wpAnyH_take (i := 16) (oi := _) (v := _) (by simp only [List.getElem?_toArray, List.getElem?_cons_succ, List.getElem?_cons_zero]; rfl) (by kernel_rfl) (by kernel_rfl) (by kernel_rfl) (by exact fun _ _ _ h => h) (Or.inl ⟨by rfl, by intro w' hSw; (try dsimp only at hSw); first | (go_simp; done) | (go_simp; with_reducible rfl)⟩) hHeld ?_
            simp only [Act.put, List.setIfInBounds_toArray, List.set_cons_zero, List.set_cons_succ]
            refine wpAnyH_take (i := 17) (oi := _) (v := _) (by simp only [List.getElem?_toArray, List.getElem?_cons_succ, List.getElem?_cons_zero]; rfl) (by kernel_rfl) (by kernel_rfl) (by kernel_rfl) (by exact fun _ _ _ h => h) (Or.inl ⟨by rfl, by intro w' hSw; (try dsimp only at hSw); first | (go_simp; done) | (go_simp; with_reducible rfl)⟩) hHeld ?_
            simp only [Act.put, List.setIfInBounds_toArray, List.set_cons_zero, List.set_cons_succ]
            refine wpAnyH_ready (rs := [18]) (by kernel_rfl) (by simp) ?_
            refine AllReadyH.cons rfl (fun K hK => ?_) AllReadyH.nil
            go_simp
            go_wp2_with fail
            refine hHas.mono ?_
            rintro r wh ⟨rfl, hbh⟩
            have hbh' : Below wr.heap.size wr wh := ⟨hbh.os, hbh.tape, hbh.output, hbh.size, hbh.block⟩
            have HPH : Hid (PlaysAt w1 wh (s) (non KT) vi vl6) := HPQ.out.below hbh'
            have HRH : Hid (TRow wh w7.heap.size (.slice (some ⟨g8, o8, none⟩) ll c8) ((s).l.map Prod.fst)) := HRQ.out.keep (fun q hq => hbh'.block q (HRQ.out.lt q hq))
            have q0 := (hbh'.cell (p := ⟨g8, o8 + j, none⟩) (lt_of_cell d0)).trans d0
            have q1 := (hbh'.cell (p := ⟨w1.heap.size + 1, 2, none⟩) (lt_of_cell m2)).trans m2
            have q2 := (hbh'.cell (p := ⟨gt, j * 2, none⟩) (lt_of_cell t0)).trans t0
            clear hbh hbh'
            refine hK.out _ _ ⟨q0, q1, q2⟩ (fun hHeld => ?_)
            clear hK K
            refine wpAnyH_take (i := 19) (oi := _) (v := _) (by simp only [List.getElem?_toArray, List.getElem?_cons_succ, List.getElem?_cons_zero]; rfl) (by kernel_rfl) (by kernel_rfl) (by kernel_rfl) (by exact fun _ _ _ h => h) (Or.inl ⟨by rfl, by intro w' hSw; (try dsimp only at hSw); first | (go_simp; done) | (go_simp; with_reducible rfl)⟩) hHeld ?_
            simp only [Act.put, List.setIfInBounds_toArray, List.set_cons_zero, List.set_cons_succ]
            refine wpAnyH_take (i := 20) (oi := _) (v := _) (by simp only [List.getElem?_toArray, List.getElem?_cons_succ, List.getElem?_cons_zero]; rfl) (by kernel_rfl) (by kernel_rfl) (by kernel_rfl) (by exact fun _ _ _ h => h) (Or.inl ⟨by rfl, by intro w' hSw; (try dsimp only at hSw); first | (go_simp; done) | (go_simp; with_reducible rfl)⟩) hHeld ?_
            simp only [Act.put, List.setIfInBounds_toArray, List.set_cons_zero, List.set_cons_succ]
            refine wpAnyH_done (by kernel_rfl) ?_ _
            clear hHeld hHas q0 q1 q2
            go_wp2_with fail
            go_roundw
            case rel => exact ⟨j + 1, by omega, by go_num, HPH.out, HRH.out⟩
            case measure => simp [intOf]; omega
          · obtain rfl : j = ll := by omega
            rw [hvq] at m2
            go_wp2_with fail
            go_roundw
            case rel => exact ⟨k + 1, s, non KT, vi, vl6, by omega, by omega, by go_num, by have := HLS.out; show s.last ≤ ((k + 1 : Nat) : Int); omega, by have := HXL.out; omega, HPQ.out⟩
            case measure => simp [intOf]; omega
      · skip
        have hX := x_drop HPX.out hm (.slice a4 xs.length c4) xs hdx (fun g hg => .inr hg) (by have := HLL.out; omega) (fun q hq => by
          rcases hq with hq | hq
          · exact ref_lt HO4.out.ref q hq
          · exact hr4w.lt q hq)
        go_wp2_with (at_builtin; refine wpList_append_run rfl _ _ _ rfl _ _ rfl rfl hrun ?_)
        refine hX.mono ?_
        rintro e w5 ⟨rfl, h5, k5⟩
        clear hX
        have href5 : RefIn w5 (w1.heap.size + 1) s.last s.m T vi vl := ref_keep HO4.out.ref (fun q hq => k5.2 q (.inl hq) (ref_lt HO4.out.ref q hq))
        have hr5 : TRow w5 w3.heap.size (.slice a4 xs.length c4) xs := k5.row HR4.out (fun g hg => .inr hg)
        have hD := dropR_any href5 (.slice a4 xs.length c4) xs hr5.at (fun g hg => by have := hr5.ge g hg; omega) (by have := HLL.out; have := HO4.out.len; omega) (by have := ok_mlen HO.out.play.ok; omega)
        go_wp2_with fail
        refine hD.mono ?_
        rintro e w6 ⟨v6, vl6, KT, rfl, hK, hr6, hR6, ht6, g2, g3⟩
        clear hD
        obtain ⟨HPA, hemp⟩ := HO4.out.drop hm (h5.mono (fun q hq => .inl hq)) hK hR6 ht6 g2 g3
        rw [hemp] at hr6
        have hS := same_any (.slice none 0 0) v6 [] [] (.inl ⟨rfl, rfl⟩) hr6.at (by decide)
        obtain ⟨a6, c6, hv6⟩ := hr6.slice
        have HPA6 : Hid (PlaysAt w1 w6 (dropF s xs) (non KT) vi vl6) := HPA
        subst hv6
        clear h5 k5 href5 hr5 hK hr6 hR6 ht6 g2 g3 hemp HPA
        go_wp2_with fail
        refine hS.mono ?_
        rintro e w7 ⟨rfl, hb7⟩
        clear hS
        have HPA7 : Hid (PlaysAt w1 w7 (dropF s xs) (non KT) vi vl6) := HPA6.out.below hb7
        clear hb7
        have HX := HPA7
        have HXL : Hid ((dropF s xs).l.length ≤ 6 * k + 6) := by show (s.l ++ _).length ≤ _; rw [List.length_append, List.length_map]; have := HLL.out; omega
        go_wp2_with fail
        have hHd := x_held HX.out.play
        refine hHd.mono ?_
        rintro e w8 ⟨v8, rfl, r8, hb8⟩
        clear hHd
        have HX8 : Hid (PlaysAt w1 w8 (dropF s xs) (non KT) vi vl6) := HX.out.below hb8
        have HR8 : Hid (TRow w8 w7.heap.size v8 ((dropF s xs).l.map Prod.fst)) := r8
        have hlen8 := HX8.out.len
        have hC := x_count (wr := w8.drew) (HX8.out.below (Below.refl _ _).drew).play
        have m1 := cell_of_heap HX8.out.ref.main 1 _ rfl
        have m2 := cell_of_heap HX8.out.ref.main 2 _ rfl
        obtain ⟨ia, ic, hvi⟩ := HX8.out.ref.ins.slice
        obtain ⟨ta, tc, hvl⟩ := HX8.out.ref.row.slice
        obtain ⟨a8, c8, hv8⟩ := r8.slice
        rw [List.length_map] at hv8
        rw [hlen8] at hvl
        obtain ⟨ml, hml⟩ : ∃ ml, (dropF s xs).m.length = ml := ⟨_, rfl⟩
        obtain ⟨ll, hll⟩ : ∃ ll, (dropF s xs).l.length = ll := ⟨_, rfl⟩
        rw [hml] at hvi hC
        rw [hll] at hvl hv8
        have HLN : Hid ((dropF s xs).l.length = ll) := hll
        have hllb : ll ≤ 6 * k + 6 := by have := HXL.out; omega
        rw [hvi] at m1
        rw [hvl] at m2
        clear hb8 r8 hlen8 hml hll
        subst hv8
        have hne1 : (((ml : Nat) : Int) != (ml : Nat)) = false := by simp
        have hne2 : (((ll : Nat) : Int) != (ll : Nat)) = false := by simp
        go_wp2_with fail
        refine wp_region_held_drew (S := fun W => W.cell? ⟨w1.heap.size + 1, 1, none⟩ = some (.slice ia ml ic) ∧ W.cell? ⟨w1.heap.size + 1, 2, none⟩ = some (.slice ta ll tc)) (by kernel_rfl) (by exact ⟨m1, m2⟩) (fun hHeld => ?_)
        change wpAnyH _ _ _ _ _ 17 (Array.replicate 17 false) _ _
        refine wpAnyH_take (i := 1) (oi := _) (v := _) (by simp only [List.getElem?_toArray, List.getElem?_cons_succ, List.getElem?_cons_zero]; rfl) (by kernel_rfl) (by kernel_rfl) (by kernel_rfl) (by exact fun _ _ _ h => h) (Or.inl ⟨by rfl, by intro w' hSw; (try dsimp only at hSw); first | (go_simp; done) | (go_simp; with_reducible rfl)⟩) hHeld ?_
        simp only [Act.put, List.setIfInBounds_toArray, List.set_cons_zero, List.set_cons_succ]
        refine wpAnyH_take (i := 2) (oi := _) (v := _) (by simp only [List.getElem?_toArray, List.getElem?_cons_succ, List.getElem?_cons_zero]; rfl) (by kernel_rfl) (by kernel_rfl) (by kernel_rfl) (by exact fun _ _ _ h => h) (Or.inl ⟨by rfl, by intro w' hSw; (try dsimp only at hSw); first | (go_simp; done) | (go_simp; with_reducible rfl)⟩) hHeld ?_
        simp only [Act.put, List.setIfInBounds_toArray, List.set_cons_zero, List.set_cons_succ]
        refine wpAnyH_take (i := 3) (oi := _) (v := _) (by simp only [List.getElem?_toArray, List.getElem?_cons_succ, List.getElem?_cons_zero]; rfl) (by kernel_rfl) (by kernel_rfl) (by kernel_rfl) (by exact fun _ _ _ h => h) (Or.inl ⟨by rfl, by intro w' hSw; (try dsimp only at hSw); first | (go_simp; done) | (go_simp; with_reducible rfl)⟩) hHeld ?_
        simp only [Act.put, List.setIfInBounds_toArray, List.set_cons_zero, List.set_cons_succ]
        refine wpAnyH_take (i := 4) (oi := _) (v := _) (by simp only [List.getElem?_toArray, List.getElem?_cons_succ, List.getElem?_cons_zero]; rfl) (by kernel_rfl) (by kernel_rfl) (by kernel_rfl) (by exact fun _ _ _ h => h) (Or.inl ⟨by rfl, by intro w' hSw; (try dsimp only at hSw); first | (go_simp; done) | (go_simp; with_reducible rfl)⟩) hHeld ?_
        simp only [Act.put, List.setIfInBounds_toArray, List.set_cons_zero, List.set_cons_succ]
        refine wpAnyH_take (i := 5) (oi := _) (v := _) (by simp only [List.getElem?_toArray, List.getElem?_cons_succ, List.getElem?_cons_zero]; rfl) (by kernel_rfl) (by kernel_rfl) (by kernel_rfl) (by exact fun _ _ _ h => h) (Or.inl ⟨by rfl, by intro w' hSw; (try dsimp only at hSw); first | (go_simp; done) | (go_simp; with_reducible rfl)⟩) hHeld ?_
        simp only [Act.put, List.setIfInBounds_toArray, List.set_cons_zero, List.set_cons_succ]
        refine wpAnyH_ready (rs := [0]) (by kernel_rfl) (by simp) ?_
        refine AllReadyH.cons rfl (fun K hK => ?_) AllReadyH.nil
        go_simp
        go_wp2_with fail
        refine hC.mono ?_
        rintro r w9 ⟨rfl, hw9⟩
        subst hw9
        refine hK.out _ _ ⟨m1, m2⟩ (fun hHeld => ?_)
        clear hK K
        refine wpAnyH_take (i := 6) (oi := _) (v := _) (by simp only [List.getElem?_toArray, List.getElem?_cons_succ, List.getElem?_cons_zero]; rfl) (by kernel_rfl) (by kernel_rfl) (by kernel_rfl) (by exact fun _ _ _ h => h) (Or.inl ⟨by rfl, by intro w' hSw; (try dsimp only at hSw); first | (go_simp; done) | (go_simp; with_reducible rfl)⟩) hHeld ?_
        simp only [Act.put, List.setIfInBounds_toArray, List.set_cons_zero, List.set_cons_succ]
        refine wpAnyH_take (i := 7) (oi := _) (v := _) (by simp only [List.getElem?_toArray, List.getElem?_cons_succ, List.getElem?_cons_zero]; rfl) (by kernel_rfl) (by kernel_rfl) (by kernel_rfl) (by exact fun _ _ _ h => h) (Or.inl ⟨by rfl, by intro w' hSw; (try dsimp only at hSw); first | (go_simp; done) | (go_simp; with_reducible rfl)⟩) hHeld ?_
        simp only [Act.put, List.setIfInBounds_toArray, List.set_cons_zero, List.set_cons_succ]
        refine wpAnyH_take (i := 8) (oi := _) (v := _) (by simp only [List.getElem?_toArray, List.getElem?_cons_succ, List.getElem?_cons_zero]; rfl) (by kernel_rfl) (by kernel_rfl) (by kernel_rfl) (by exact fun _ _ _ h => h) (Or.inl ⟨by rfl, by intro w' hSw; (try dsimp only at hSw); first | (go_simp; done) | (go_simp; with_reducible rfl)⟩) hHeld ?_
        simp only [Act.put, List.setIfInBounds_toArray, List.set_cons_zero, List.set_cons_succ]
        refine wpAnyH_take (i := 9) (oi := _) (v := _) (by simp only [List.getElem?_toArray, List.getElem?_cons_succ, List.getElem?_cons_zero]; rfl) (by kernel_rfl) (by kernel_rfl) (by kernel_rfl) (by exact fun _ _ _ h => h) (Or.inl ⟨by rfl, by intro w' hSw; (try dsimp only at hSw); first | (go_simp; done) | (go_simp; with_reducible rfl)⟩) hHeld ?_
        simp only [Act.put, List.setIfInBounds_toArray, List.set_cons_zero, List.set_cons_succ]
        refine wpAnyH_take (i := 10) (oi := _) (v := _) (by simp only [List.getElem?_toArray, List.getElem?_cons_succ, List.getElem?_cons_zero]; rfl) (by kernel_rfl) (by kernel_rfl) (by kernel_rfl) (by exact fun _ _ _ h => h) (Or.inl ⟨by rfl, by intro w' hSw; (try dsimp only at hSw); first | (go_simp; done) | (go_simp; with_reducible rfl)⟩) hHeld ?_
        simp only [Act.put, List.setIfInBounds_toArray, List.set_cons_zero, List.set_cons_succ]
        refine wpAnyH_take (i := 11) (oi := _) (v := _) (by simp only [List.getElem?_toArray, List.getElem?_cons_succ, List.getElem?_cons_zero]; rfl) (by kernel_rfl) (by kernel_rfl) (by kernel_rfl) (by exact fun _ _ _ h => h) (Or.inl ⟨by rfl, by intro w' hSw; (try dsimp only at hSw); first | (go_simp; done) | (go_simp; with_reducible rfl)⟩) hHeld ?_
        simp only [Act.put, List.setIfInBounds_toArray, List.set_cons_zero, List.set_cons_succ]
        refine wpAnyH_take (i := 12) (oi := _) (v := _) (by simp only [List.getElem?_toArray, List.getElem?_cons_succ, List.getElem?_cons_zero]; rfl) (by kernel_rfl) (by kernel_rfl) (by kernel_rfl) (by exact fun _ _ _ h => h) (Or.inl ⟨by rfl, by intro w' hSw; (try dsimp only at hSw); first | (go_simp; done) | (go_simp; with_reducible rfl)⟩) hHeld ?_
        simp only [Act.put, List.setIfInBounds_toArray, List.set_cons_zero, List.set_cons_succ]
        refine wpAnyH_take (i := 13) (oi := _) (v := _) (by simp only [List.getElem?_toArray, List.getElem?_cons_succ, List.getElem?_cons_zero]; rfl) (by kernel_rfl) (by kernel_rfl) (by kernel_rfl) (by exact fun _ _ _ h => h) (Or.inl ⟨by rfl, by intro w' hSw; (try dsimp only at hSw); first | (go_simp; done) | (go_simp; with_reducible rfl)⟩) hHeld ?_
        simp only [Act.put, List.setIfInBounds_toArray, List.set_cons_zero, List.set_cons_succ]
        refine wpAnyH_take (i := 14) (oi := _) (v := _) (by simp only [List.getElem?_toArray, List.getElem?_cons_succ, List.getElem?_cons_zero]; rfl) (by kernel_rfl) (by kernel_rfl) (by kernel_rfl) (by exact fun _ _ _ h => h) (Or.inl ⟨by rfl, by intro w' hSw; (try dsimp only at hSw); first | (go_simp; done) | (go_simp; with_reducible rfl)⟩) hHeld ?_
        simp only [Act.put, List.setIfInBounds_toArray, List.set_cons_zero, List.set_cons_succ]
        refine wpAnyH_take (i := 15) (oi := _) (v := _) (by simp only [List.getElem?_toArray, List.getElem?_cons_succ, List.getElem?_cons_zero]; rfl) (by kernel_rfl) (by kernel_rfl) (by kernel_rfl) (by exact fun _ _ _ h => h) (Or.inl ⟨by rfl, by intro w' hSw; (try dsimp only at hSw); first | (go_simp; done) | (go_simp; with_reducible rfl)⟩) hHeld ?_
        simp only [Act.put, List.setIfInBounds_toArray, List.set_cons_zero, List.set_cons_succ]
        refine wpAnyH_take (i := 16) (oi := _) (v := _) (by simp only [List.getElem?_toArray, List.getElem?_cons_succ, List.getElem?_cons_zero]; rfl) (by kernel_rfl) (by kernel_rfl) (by kernel_rfl) (by exact fun _ _ _ h => h) (Or.inl ⟨by rfl, by intro w' hSw; (try dsimp only at hSw); first | (go_simp; done) | (go_simp; with_reducible rfl)⟩) hHeld ?_
        simp only [Act.put, List.setIfInBounds_toArray, List.set_cons_zero, List.set_cons_succ]
        refine wpAnyH_done (by kernel_rfl) ?_ _
        clear hHeld hC hne1 hne2
        have HX9 : Hid (PlaysAt w1 w8.drew (dropF s xs) (non KT) vi vl6) := HX8.out.below (Below.refl _ _).drew
        have HR9 : Hid (TRow w8.drew w7.heap.size (.slice a8 ll c8) ((dropF s xs).l.map Prod.fst)) := HR8.out.keep (fun _ _ => rfl)
        have hsz9 : w8.heap.size ≤ w8.drew.heap.size := Nat.le_refl _
        generalize w8.drew = w9 at *
        clear m1 m2 hvi hvl
        go_wp2_with fail
        go_loopw [9] (fun jv wq => ∃ j : Nat, j ≤ ll ∧ jv = .int .i64 j ∧ PlaysAt w1 wq (dropF s xs) (non KT) vi vl6 ∧ TRow wq w7.heap.size (.slice a8 ll c8) ((dropF s xs).l.map Prod.fst)) (fun jv _ => ll - (intOf jv).toNat)
        case atStart => exact ⟨0, Nat.zero_le _, rfl, HX9.out, HR9.out⟩
        case round =>
          obtain ⟨j, hj, rfl, hpq, hrq⟩ := hrel
          have HPQ : Hid (PlaysAt w1 wr (dropF s xs) (non KT) vi vl6) := hpq
          have HRQ : Hid (TRow wr w7.heap.size (.slice a8 ll c8) ((dropF s xs).l.map Prod.fst)) := hrq
          have hlt := hpq.len
          have m2 := cell_of_heap hpq.ref.main 2 _ rfl
          obtain ⟨tq, cq, hvq⟩ := hpq.ref.row.slice
          rw [hlt, HLN.out] at hvq
          clear hpq hrq
          by_cases hjl : j < ll
          · have hjs : j < (dropF s xs).l.length := by rw [HLN.out]; exact hjl
            have hjt : j < (non KT).length := by rw [hlt]; exact hjs
            have hrow := HPQ.out.ref.row
            rw [hvq] at hrow m2
            obtain ⟨gt, hgt, hgtl, hle0, hct1, hct2, t0, t1⟩ := hrow.cell j hjt
            subst hgt
            rw [HPQ.out.thing j hjt hjs] at t0
            rcases HRQ.out.at with ⟨_, h0⟩ | ⟨g8, o8, p8, he8, hp1, hp2, hg8, hc8⟩
            · rw [List.map_eq_nil_iff] at h0
              rw [h0] at hjs
              cases hjs
            injection he8 with h81 h82 h83
            subst h81
            rw [← h83, ← h82] at hp1
            rw [← h83] at hp2
            clear h82 h83
            have d0 := hc8 j (by rw [List.length_map]; exact hjs)
            rw [List.getElem_map] at d0
            have hHas := x_has (wr := wr.drew) (HPQ.out.below (Below.refl _ _).drew).play ((dropF s xs).l[j]).1
            rw [any_at _ j hjs] at hHas
            obtain ⟨y, hy⟩ : ∃ y, ((dropF s xs).l[j]).1 = y := ⟨_, rfl⟩
            rw [hy] at t0 d0 hHas
            have hyy : (y != y) = false := by simp
            clear t1 hy hc8 hrow hct1 hp1 hlt hle0
            go_wp2_with fail
            refine wp_region_held_drew (S := fun W => W.cell? ⟨g8, o8 + j, none⟩ = some (.int .i64 y) ∧ W.cell? ⟨w1.heap.size + 1, 2, none⟩ = some (.slice (some ⟨gt, 0, none⟩) ll cq) ∧ W.cell? ⟨gt, j * 2, none⟩ = some (.int .i64 y)) (by kernel_rfl) (by exact ⟨d0, m2, t0⟩) (fun hHeld => ?_)
            change wpAnyH _ _ _ _ _ 21 (Array.replicate 21 false) _ _
            refine wpAnyH_take (i := 0) (oi := _) (v := _) (by simp only [List.getElem?_toArray, List.getElem?_cons_zero]; rfl) (by kernel_rfl) (by kernel_rfl) (by kernel_rfl) (by exact fun _ _ _ h => h) (Or.inl ⟨by rfl, by intro w' hSw; (try dsimp only at hSw); first | (go_simp; done) | (go_simp; with_reducible rfl)⟩) hHeld ?_
            simp only [Act.put, List.setIfInBounds_toArray, List.set_cons_zero, List.set_cons_succ]
            refine wpAnyH_take (i := 1) (oi := _) (v := _) (by simp only [List.getElem?_toArray, List.getElem?_cons_succ, List.getElem?_cons_zero]; rfl) (by kernel_rfl) (by kernel_rfl) (by kernel_rfl) (by exact fun _ _ _ h => h) (Or.inl ⟨by rfl, by intro w' hSw; (try dsimp only at hSw); first | (go_simp; done) | (go_simp; with_reducible rfl)⟩) hHeld ?_
            simp only [Act.put, List.setIfInBounds_toArray, List.set_cons_zero, List.set_cons_succ]
            refine wpAnyH_take (i := 2) (oi := _) (v := _) (by simp only [List.getElem?_toArray, List.getElem?_cons_succ, List.getElem?_cons_zero]; rfl) (by kernel_rfl) (by kernel_rfl) (by kernel_rfl) (by exact fun _ _ _ h => h) (Or.inl ⟨by rfl, by intro w' hSw; (try dsimp only at hSw); first | (go_simp; done) | (go_simp; with_reducible rfl)⟩) hHeld ?_
            simp only [Act.put, List.setIfInBounds_toArray, List.set_cons_zero, List.set_cons_succ]
            refine wpAnyH_take (i := 3) (oi := _) (v := _) (by simp only [List.getElem?_toArray, List.getElem?_cons_succ, List.getElem?_cons_zero]; rfl) (by kernel_rfl) (by kernel_rfl) (by kernel_rfl) (by exact fun _ _ _ h => h) (Or.inl ⟨by rfl, by intro w' hSw; (try dsimp only at hSw); first | (go_simp; done) | (go_simp; with_reducible rfl)⟩) hHeld ?_
            simp only [Act.put, List.setIfInBounds_toArray, List.set_cons_zero, List.set_cons_succ]
            refine wpAnyH_take (i := 4) (oi := _) (v := _) (by simp only [List.getElem?_toArray, List.getElem?_cons_succ, List.getElem?_cons_zero]; rfl) (by kernel_rfl) (by kernel_rfl) (by kernel_rfl) (by exact fun _ _ _ h => h) (Or.inl ⟨by rfl, by intro w' hSw; (try dsimp only at hSw); first | (go_simp; done) | (go_simp; with_reducible rfl)⟩) hHeld ?_
            simp only [Act.put, List.setIfInBounds_toArray, List.set_cons_zero, List.set_cons_succ]
            refine wpAnyH_take (i := 5) (oi := _) (v := _) (by simp only [List.getElem?_toArray, List.getElem?_cons_succ, List.getElem?_cons_zero]; rfl) (by kernel_rfl) (by kernel_rfl) (by kernel_rfl) (by exact fun _ _ _ h => h) (Or.inl ⟨by rfl, by intro w' hSw; (try dsimp only at hSw); first | (go_simp; done) | (go_simp; with_reducible rfl)⟩) hHeld ?_
            simp only [Act.put, List.setIfInBounds_toArray, List.set_cons_zero, List.set_cons_succ]
            refine wpAnyH_take (i := 6) (oi := _) (v := _) (by simp only [List.getElem?_toArray, List.getElem?_cons_succ, List.getElem?_cons_zero]; rfl) (by kernel_rfl) (by kernel_rfl) (by kernel_rfl) (by exact fun _ _ _ h => h) (Or.inl ⟨by rfl, by intro w' hSw; (try dsimp only at hSw); first | (go_simp; done) | (go_simp; with_reducible rfl)⟩) hHeld ?_
            simp only [Act.put, List.setIfInBounds_toArray, List.set_cons_zero, List.set_cons_succ]
            refine wpAnyH_take (i := 7) (oi := _) (v := _) (by simp only [List.getElem?_toArray, List.getElem?_cons_succ, List.getElem?_cons_zero]; rfl) (by kernel_rfl) (by kernel_rfl) (by kernel_rfl) (by exact fun _ _ _ h => h) (Or.inl ⟨by rfl, by intro w' hSw; (try dsimp only at hSw); first | (go_simp; done) | (go_simp; with_reducible rfl)⟩) hHeld ?_
            simp only [Act.put, List.setIfInBounds_toArray, List.set_cons_zero, List.set_cons_succ]
            refine wpAnyH_take (i := 8) (oi := _) (v := _) (by simp only [List.getElem?_toArray, List.getElem?_cons_succ, List.getElem?_cons_zero]; rfl) (by kernel_rfl) (by kernel_rfl) (by kernel_rfl) (by exact fun _ _ _ h => h) (Or.inl ⟨by rfl, by intro w' hSw; (try dsimp only at hSw); first | (go_simp; done) | (go_simp; with_reducible rfl)⟩) hHeld ?_
            simp only [Act.put, List.setIfInBounds_toArray, List.set_cons_zero, List.set_cons_succ]
            refine wpAnyH_take (i := 9) (oi := _) (v := _) (by simp only [List.getElem?_toArray, List.getElem?_cons_succ, List.getElem?_cons_zero]; rfl) (by kernel_rfl) (by kernel_rfl) (by kernel_rfl) (by exact fun _ _ _ h => h) (Or.inl ⟨by rfl, by intro w' hSw; (try dsimp only at hSw); first | (go_simp; done) | (go_simp; with_reducible rfl)⟩) hHeld ?_
            simp only [Act.put, List.setIfInBounds_toArray, List.set_cons_zero, List.set_cons_succ]
            refine wpAnyH_take (i := 10) (oi := _) (v := _) (by simp only [List.getElem?_toArray, List.getElem?_cons_succ, List.getElem?_cons_zero]; rfl) (by kernel_rfl) (by kernel_rfl) (by kernel_rfl) (by exact fun _ _ _ h => h) (Or.inl ⟨by rfl, by intro w' hSw; (try dsimp only at hSw); first | (go_simp; done) | (go_simp; with_reducible rfl)⟩) hHeld ?_
            simp only [Act.put, List.setIfInBounds_toArray, List.set_cons_zero, List.set_cons_succ]
            refine wpAnyH_take (i := 11) (oi := _) (v := _) (by simp only [List.getElem?_toArray, List.getElem?_cons_succ, List.getElem?_cons_zero]; rfl) (by kernel_rfl) (by kernel_rfl) (by kernel_rfl) (by exact fun _ _ _ h => h) (Or.inl ⟨by rfl, by intro w' hSw; (try dsimp only at hSw); first | (go_simp; done) | (go_simp; with_reducible rfl)⟩) hHeld ?_
            simp only [Act.put, List.setIfInBounds_toArray, List.set_cons_zero, List.set_cons_succ]
            refine wpAnyH_take (i := 12) (oi := _) (v := _) (by simp only [List.getElem?_toArray, List.getElem?_cons_succ, List.getElem?_cons_zero]; rfl) (by kernel_rfl) (by kernel_rfl) (by kernel_rfl) (by exact fun _ _ _ h => h) (Or.inl ⟨by rfl, by intro w' hSw; (try dsimp only at hSw); first | (go_simp; done) | (go_simp; with_reducible rfl)⟩) hHeld ?_
            simp only [Act.put, List.setIfInBounds_toArray, List.set_cons_zero, List.set_cons_succ]
            refine wpAnyH_take (i := 13) (oi := _) (v := _) (by simp only [List.getElem?_toArray, List.getElem?_cons_succ, List.getElem?_cons_zero]; rfl) (by kernel_rfl) (by kernel_rfl) (by kernel_rfl) (by exact fun _ _ _ h => h) (Or.inl ⟨by rfl, by intro w' hSw; (try dsimp only at hSw); first | (go_simp; done) | (go_simp; with_reducible rfl)⟩) hHeld ?_
            simp only [Act.put, List.setIfInBounds_toArray, List.set_cons_zero, List.set_cons_succ]
            refine wpAnyH_take (i := 14) (oi := _) (v := _) (by simp only [List.getElem?_toArray, List.getElem?_cons_succ, List.getElem?_cons_zero]; rfl) (by kernel_rfl) (by kernel_rfl) (by kernel_rfl) (by exact fun _ _ _ h => h) (Or.inl ⟨by rfl, by intro w' hSw; (try dsimp only at hSw); first | (go_simp; done) | (go_simp; with_reducible rfl)⟩) hHeld ?_
            simp only [Act.put, List.setIfInBounds_toArray, List.set_cons_zero, List.set_cons_succ]
            refine wpAnyH_take (i := 15) (oi := _) (v := _) (by simp only [List.getElem?_toArray, List.getElem?_cons_succ, List.getElem?_cons_zero]; rfl) (by kernel_rfl) (by kernel_rfl) (by kernel_rfl) (by exact fun _ _ _ h => h) (Or.inl ⟨by rfl, by intro w' hSw; (try dsimp only at hSw); first | (go_simp; done) | (go_simp; with_reducible rfl)⟩) hHeld ?_
            simp only [Act.put, List.setIfInBounds_toArray, List.set_cons_zero, List.set_cons_succ]
            refine wpAnyH_take (i := 16) (oi := _) (v := _) (by simp only [List.getElem?_toArray, List.getElem?_cons_succ, List.getElem?_cons_zero]; rfl) (by kernel_rfl) (by kernel_rfl) (by kernel_rfl) (by exact fun _ _ _ h => h) (Or.inl ⟨by rfl, by intro w' hSw; (try dsimp only at hSw); first | (go_simp; done) | (go_simp; with_reducible rfl)⟩) hHeld ?_
            simp only [Act.put, List.setIfInBounds_toArray, List.set_cons_zero, List.set_cons_succ]
            refine wpAnyH_take (i := 17) (oi := _) (v := _) (by simp only [List.getElem?_toArray, List.getElem?_cons_succ, List.getElem?_cons_zero]; rfl) (by kernel_rfl) (by kernel_rfl) (by kernel_rfl) (by exact fun _ _ _ h => h) (Or.inl ⟨by rfl, by intro w' hSw; (try dsimp only at hSw); first | (go_simp; done) | (go_simp; with_reducible rfl)⟩) hHeld ?_
            simp only [Act.put, List.setIfInBounds_toArray, List.set_cons_zero, List.set_cons_succ]
            refine wpAnyH_ready (rs := [18]) (by kernel_rfl) (by simp) ?_
            refine AllReadyH.cons rfl (fun K hK => ?_) AllReadyH.nil
            go_simp
            go_wp2_with fail
            refine hHas.mono ?_
            rintro r wh ⟨rfl, hbh⟩
            have hbh' : Below wr.heap.size wr wh := ⟨hbh.os, hbh.tape, hbh.output, hbh.size, hbh.block⟩
            have HPH : Hid (PlaysAt w1 wh (dropF s xs) (non KT) vi vl6) := HPQ.out.below hbh'
            have HRH : Hid (TRow wh w7.heap.size (.slice (some ⟨g8, o8, none⟩) ll c8) ((dropF s xs).l.map Prod.fst)) := HRQ.out.keep (fun q hq => hbh'.block q (HRQ.out.lt q hq))
            have q0 := (hbh'.cell (p := ⟨g8, o8 + j, none⟩) (lt_of_cell d0)).trans d0
            have q1 := (hbh'.cell (p := ⟨w1.heap.size + 1, 2, none⟩) (lt_of_cell m2)).trans m2
            have q2 := (hbh'.cell (p := ⟨gt, j * 2, none⟩) (lt_of_cell t0)).trans t0
            clear hbh hbh'
            refine hK.out _ _ ⟨q0, q1, q2⟩ (fun hHeld => ?_)
            clear hK K
            refine wpAnyH_take (i := 19) (oi := _) (v := _) (by simp only [List.getElem?_toArray, List.getElem?_cons_succ, List.getElem?_cons_zero]; rfl) (by kernel_rfl) (by kernel_rfl) (by kernel_rfl) (by exact fun _ _ _ h => h) (Or.inl ⟨by rfl, by intro w' hSw; (try dsimp only at hSw); first | (go_simp; done) | (go_simp; with_reducible rfl)⟩) hHeld ?_
            simp only [Act.put, List.setIfInBounds_toArray, List.set_cons_zero, List.set_cons_succ]
            refine wpAnyH_take (i := 20) (oi := _) (v := _) (by simp only [List.getElem?_toArray, List.getElem?_cons_succ, List.getElem?_cons_zero]; rfl) (by kernel_rfl) (by kernel_rfl) (by kernel_rfl) (by exact fun _ _ _ h => h) (Or.inl ⟨by rfl, by intro w' hSw; (try dsimp only at hSw); first | (go_simp; done) | (go_simp; with_reducible rfl)⟩) hHeld ?_
            simp only [Act.put, List.setIfInBounds_toArray, List.set_cons_zero, List.set_cons_succ]
            refine wpAnyH_done (by kernel_rfl) ?_ _
            clear hHeld hHas q0 q1 q2
            go_wp2_with fail
            go_roundw
            case rel => exact ⟨j + 1, by omega, by go_num, HPH.out, HRH.out⟩
            case measure => simp [intOf]; omega
          · obtain rfl : j = ll := by omega
            rw [hvq] at m2
            go_wp2_with fail
            go_roundw
            case rel => exact ⟨k + 1, dropF s xs, non KT, vi, vl6, by omega, by omega, by go_num, by have := HLS.out; show s.last ≤ ((k + 1 : Nat) : Int); omega, by have := HXL.out; omega, HPQ.out⟩
            case measure => simp [intOf]; omega
    · skip
      have hx : decide ((k : Int) < (len : Int)) = false ∨ decide ((k : Int) < 60) = false := by
        rcases Nat.lt_or_ge k len with h1 | h1
        · right; rw [decide_eq_false_iff_not]; omega
        · left; rw [decide_eq_false_iff_not]; omega
      have HBE : Hid (Below w.heap.size w wr) := HB1.out.trans (HO.out.play.bel.mono HB1.out.size)
      rcases hx with hx | hx
      all_goals go_wp2_with fail
      all_goals go_ret
      all_goals exact ⟨rfl, HBE.out⟩

end Go.Proofs.Ytgfbcekmnpdoeaa.Hd
