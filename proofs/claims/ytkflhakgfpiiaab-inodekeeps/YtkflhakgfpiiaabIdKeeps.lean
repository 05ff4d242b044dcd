/-
  InodeKeeps: the walk. No condition.
-/
import Derived.Test.YtkflhakgfpiiaabIdSp
import Derived.Test.YtkflhakgfpiiaabLeM
namespace Go.Proofs.Ytkflhakgfpiiaab.Id
open Go.ChangeShapes Go.WideShapes Go.ChangeAt Go.RowKit Go.Proofs.Fa

variable {w : World} {B : Nat}
set_option maxRecDepth 100000
set_option maxHeartbeats 1000000

/-- An inode in memory. -/
structure InoAt (w : World) (b : Nat) (ver : Int) (a : Option Addr) (n c : Nat) (l : List Ext) : Prop where
  blk : w.heap[b]? = some (.cells #[.int .i64 ver, .slice a n c] 26 (0, 0))
  row : Row w 0 (.slice a n c) l
  len : l.length = n
  ok : OkL l
  apart : ∀ g, (Value.slice a n c).ownBlock = some g → g ≠ b
theorem InoAt.below {w w' : World} {b : Nat} {ver : Int} {a : Option Addr} {n c : Nat} {l : List Ext} (h : InoAt w b ver a n c l) (hb : Below w.heap.size w w') : InoAt w' b ver a n c l :=
  ⟨(hb.block _ (lt_of_heap h.blk)).trans h.blk, row_below h.row hb (Nat.le_refl _), h.len, h.ok, h.apart⟩

theorem GrowAt.either {w w' : World} {ver : Int} {l : List Ext} {e : Ext} {r : Ending} (h : GrowAt w ver l e r w') : ∃ ver' a n c ev, r = .returned (.tuple #[.agg #[.int .i64 ver', .slice a n c], ev]) ∧
    ((ev = .nilIface ∧ growE l e = 0 ∧ ver' = ver + 1 ∧ (appF l e).length = n ∧ Row w' w.heap.size (.slice a n c) (appF l e)) ∨ (growE l e ≠ 0 ∧ ∃ er, ev = .iface 54 (.int .i64 er))) ∧ Below w.heap.size w w' := by
  obtain ⟨⟨ver', v', rfl, h1, h2⟩, hb⟩ := h
  by_cases h0 : growE l e = 0
  · obtain ⟨rfl, hr⟩ := h1 h0
    obtain ⟨a, c, rfl, _⟩ := row_slice hr
    exact ⟨_, a, _, c, _, rfl, .inl ⟨by rw [h0]; rfl, h0, rfl, rfl, hr⟩, hb⟩
  · obtain ⟨rfl, rfl⟩ := h2 h0
    exact ⟨_, _, _, _, _, rfl, .inr ⟨h0, growE l e, by unfold errV; rw [if_neg h0]⟩, hb⟩

theorem appF_length (l : List Ext) (e : Ext) : (appF l e).length ≤ l.length + 1 := by
  rcases last_cases l with rfl | ⟨a, o, rfl⟩
  · simp [appF_nil]
  · by_cases h : o.pos + o.len = e.pos
    · rw [appF_join _ _ _ h]; simp
    · rw [appF_new _ _ _ h]; simp
theorem growE_ok {l : List Ext} {e : Ext} (h : growE l e = 0) : Ok e := by
  unfold growE at h
  by_cases hm : mayF l e = true
  · unfold mayF at hm
    simp only [Bool.and_eq_true] at hm
    exact (belowF_ok e).1 hm.1
  · rw [if_neg hm] at h; cases h

/-- What Grow gave, with where it lies. -/
def EvAt (w wz : World) (ver ver3 : Int) (l : List Ext) (e : Ext) (a3 : Option Addr) (n3 c3 : Nat) (ev : Value) : Prop :=
  (ev = .nilIface ∧ growE l e = 0 ∧ ver3 = ver + 1 ∧ (appF l e).length = n3 ∧ Row wz w.heap.size (.slice a3 n3 c3) (appF l e)) ∨ (growE l e ≠ 0 ∧ ∃ er, ev = .iface 54 (.int .i64 er))

/-- x takes what Grow gave. -/
theorem InoAt.put {w wz : World} {xb : Nat} {ver ver3 : Int} {xa a3 : Option Addr} {xn xc n3 c3 : Nat} {l l3 : List Ext} (h : InoAt w xb ver xa xn xc l) (hb : Below w.heap.size w wz) (hr : Row wz w.heap.size (.slice a3 n3 c3) l3) (hl : l3.length = n3) (hok : OkL l3) :
    InoAt ((wz.setCell ⟨xb, 0, none⟩ (.int .i64 ver3)).setCell ⟨xb, 1, none⟩ (.slice a3 n3 c3)) xb ver3 a3 n3 c3 l3 := by
  have hx := lt_of_heap h.blk
  have hne : ∀ g, (Value.slice a3 n3 c3).ownBlock = some g → g ≠ xb := fun g e => by have := row_ge hr g e; omega
  exact ⟨set2_heap ((hb.block _ hx).trans h.blk) _ _, row_base (row_keep hr (fun g e => set2_other (hne g e) _ _)) (Nat.zero_le _), hl, hok, hne⟩

theorem and1023 (n : Int) : bits .and .i64 n 1023 = n % 1024 := Le.i64_and_mask n 10 (by decide)
theorem and15 (n : Int) : bits .and .i64 n 15 = n % 16 := Le.i64_and_mask n 4 (by decide)

theorem inodeKeeps_walk (a : Option Addr) (len cap : Nat) (L : Nat → Ext) (mp ml cut : Int) (w : World) (_hlen : len ≤ maxLen) (hI : ItemsAt w a len L)
    (_hmp : -9223372036854775808 ≤ mp ∧ mp ≤ 9223372036854775807) (_hml : -9223372036854775808 ≤ ml ∧ ml ≤ 9223372036854775807) (_hcut : -9223372036854775808 ≤ cut ∧ cut ≤ 9223372036854775807) :
    Calls Try.prog 4 #[.slice a len cap, .agg #[.int .i64 mp, .int .i64 ml], .int .i64 cut] w fun r w' => r = .returned (.bool true) ∧ Below w.heap.size w w' := by
  have HI0 : Hid (ItemsAt w a len L) := hI
  clear hI
  obtain ⟨w0, hw0⟩ : ∃ w0, w0 = w.alloc (Obj.cells #[.int .i64 mp, .int .i64 ml] 41) := ⟨_, rfl⟩
  have HM0 : Hid (w0.heap[w.heap.size]? = some (.cells #[.int .i64 mp, .int .i64 ml] 41 (0, 0))) := by rw [hw0]; exact heap_alloc_new _ _
  have HB0 : Hid (Below w.heap.size w w0) := by rw [hw0]; exact (Below.refl _ _).alloc (Nat.le_refl _) _
  go_enter Try.func4, Try.ntmps4
  go_wp2_with fail
  rw [← hw0]
  refine (speaks_any _).mono ?_
  rintro r w1 ⟨rfl, hb1⟩
  clear hw0
  obtain ⟨w2, hw2⟩ : ∃ w2, w2 = w1.alloc (Obj.cells #[.int .i64 0, .slice none 0 0] 26) := ⟨_, rfl⟩
  have hb2 : Below w0.heap.size w0 w2 := by rw [hw2]; exact hb1.alloc hb1.size _
  have HM2 : Hid (w2.heap[w.heap.size]? = some (.cells #[.int .i64 mp, .int .i64 ml] 41 (0, 0))) := (hb2.block _ (lt_of_heap HM0.out)).trans HM0.out
  have HB2 : Hid (Below w.heap.size w w2) := HB0.out.trans (hb2.mono HB0.out.size)
  obtain ⟨xb, hxb⟩ : ∃ xb, xb = w1.heap.size := ⟨_, rfl⟩
  have HX2 : Hid (InoAt w2 xb 0 none 0 0 []) := by
    rw [hw2, hxb]
    exact ⟨heap_alloc_new _ _, World.ownsRow_nil _ _ _ _, rfl, OkL.nil, fun g h => by cases h⟩
  have HXW : Hid (w.heap.size < xb) := by show _ < _; rw [hxb]; exact Nat.lt_of_lt_of_le (lt_of_heap HM0.out) hb1.size
  go_wp2_with fail
  rw [← hw2, ← hxb]
  clear hb1 hb2 hw2 hxb HM0 HB0
  go_loopw [8] (fun i wr => ∃ (k : Nat) (ver : Int) (xa : Option Addr) (xn xc : Nat) (l : List Ext), (k ≤ len ∧ k ≤ 30) ∧ i = .int .i64 k ∧ (0 ≤ ver ∧ ver ≤ k) ∧ xn ≤ k ∧ InoAt wr xb ver xa xn xc l ∧ wr.heap[w.heap.size]? = some (.cells #[.int .i64 mp, .int .i64 ml] 41 (0, 0)) ∧ Below w.heap.size w wr) (fun i _ => 30 - (intOf i).toNat)
  case atStart => exact ⟨0, 0, none, 0, 0, [], ⟨Nat.zero_le _, by omega⟩, rfl, by omega, Nat.le_refl _, HX2.out, HM2.out, HB2.out⟩
  case round =>
    obtain ⟨k, ver, xa, xn, xc, l, ⟨hk1, hk2⟩, rfl, hver, hxn, hX, hM, hB⟩ := hrel
    have HX : Hid (InoAt wr xb ver xa xn xc l) := hX
    have HM : Hid (wr.heap[w.heap.size]? = some (.cells #[.int .i64 mp, .int .i64 ml] 41 (0, 0))) := hM
    have HB : Hid (Below w.heap.size w wr) := hB
    clear HX2 HM2 HB2 hX hM hB
    by_cases hlt : k < len ∧ k < 30
    · obtain ⟨hl1, hl2⟩ := hlt
      have hl1' : (k : Int) < (len : Int) := by omega
      have hl2' : (k : Int) < 30 := by omega
      have hIk := HI0.out.below HB.out (Nat.le_refl _)
      rcases hIk.1 with h0 | ⟨ib, off, rfl, hibl, hc⟩
      · omega
      · obtain ⟨i0, i1⟩ := hc k hl1
        obtain ⟨q0, q1⟩ := hIk.2 k hl1
        clear hIk hc
        generalize L k = it at *
        obtain ⟨ip, il⟩ := it
        dsimp only at i0 i1 q0 q1
        obtain ⟨x0, x1, _, _⟩ := agg2 HX.out.blk
        obtain ⟨p, hp, hp0, hp1⟩ : ∃ p, bits BinOp.and IntKind.i64 ip 1023 = p ∧ 0 ≤ p ∧ p ≤ 1023 := ⟨_, rfl, by rw [and1023]; omega, by rw [and1023]; omega⟩
        obtain ⟨q, hq, hq0, hq1⟩ : ∃ q, IntKind.i64.wrap (1 + bits BinOp.and IntKind.i64 il 15) = q ∧ 1 ≤ q ∧ q ≤ 16 := ⟨_, rfl, by rw [and15, IntWalk.i64_in _ (by omega)]; omega, by rw [and15, IntWalk.i64_in _ (by omega)]; omega⟩
        have HP : Hid (_ = _) := hp
        have HQ : Hid (_ = _) := hq
        clear hp hq q0 q1
        have hG := fun w hr => grow_any (w := w) (B := 0) ver (.slice xa xn xc) l ⟨p, q⟩ hr (by have := HX.out.len; omega) HX.out.ok (by omega) (by dsimp only; omega)
        simp only [ino, Ext.agg] at hG
        have HBd : Hid (Below wr.heap.size wr wr.drew) := (Below.refl _ _).drew
        go_wp2
        refine wp_region_held_drew (S := fun W => W.cell? ⟨xb, 0, none⟩ = some (.int .i64 ver) ∧ W.cell? ⟨xb, 1, none⟩ = some (.slice xa xn xc) ∧ W.cell? ⟨ib, off + k * 2, none⟩ = some (.int .i64 ip) ∧ W.cell? ⟨ib, off + k * 2 + 1, none⟩ = some (.int .i64 il)) (by kernel_rfl) (by exact ⟨x0, x1, i0, i1⟩) (fun hHeld => ?_)
        change wpAnyH _ _ _ _ _ 22 (Array.replicate 22 false) _ _
        refine wpAnyH_take (i := 0) (oi := _) (v := _) (by simp only [List.getElem?_toArray, List.getElem?_cons_zero]; rfl) (by kernel_rfl) (by kernel_rfl) (by kernel_rfl) (by exact fun _ _ _ h => h) (Or.inl ⟨by rfl, by intro w' hSw; (try dsimp only at hSw); first | (go_simp; done) | (go_simp; with_reducible rfl)⟩) hHeld ?_
        simp only [Act.put, List.setIfInBounds_toArray, List.set_cons_zero, List.set_cons_succ]
        refine wpAnyH_take (i := 1) (oi := _) (v := _) (by simp only [List.getElem?_toArray, List.getElem?_cons_succ, List.getElem?_cons_zero]; rfl) (by kernel_rfl) (by kernel_rfl) (by kernel_rfl) (by exact fun _ _ _ h => h) (Or.inl ⟨by rfl, by intro w' hSw; (try dsimp only at hSw); first | (go_simp; done) | (go_simp; with_reducible rfl)⟩) hHeld ?_
        simp only [Act.put, List.setIfInBounds_toArray, List.set_cons_zero, List.set_cons_succ]
        refine wpAnyH_take (i := 2) (oi := _) (v := _) (by simp only [List.getElem?_toArray, List.getElem?_cons_succ, List.getElem?_cons_zero]; rfl) (by kernel_rfl) (by kernel_rfl) (by kernel_rfl) (by exact fun _ _ _ h => h) (Or.inl ⟨by rfl, by intro w' hSw; (try dsimp only at hSw); first | (go_simp; done) | (go_simp; with_reducible rfl)⟩) hHeld ?_
        simp only [Act.put, List.setIfInBounds_toArray, List.set_cons_zero, List.set_cons_succ]
        refine wpAnyH_take (i := 3) (oi := _) (v := _) (by simp only [List.getElem?_toArray, List.getElem?_cons_succ, List.getElem?_cons_zero]; rfl) (by kernel_rfl) (by kernel_rfl) (by kernel_rfl) (by exact fun _ _ _ h => h) (Or.inl ⟨by rfl, by intro w' hSw; (try dsimp only at hSw); first | (go_simp; done) | (go_simp; with_reducible rfl)⟩) hHeld ?_
        simp only [Act.put, List.setIfInBounds_toArray, List.set_cons_zero, List.set_cons_succ]
        refine wpAnyH_take (i := 4) (oi := _) (v := _) (by simp only [List.getElem?_toArray, List.getElem?_cons_succ, List.getElem?_cons_zero]; rfl) (by kernel_rfl) (by kernel_rfl) (by kernel_rfl) (by exact fun _ _ _ h => h) (Or.inl ⟨by rfl, by intro w' hSw; (try dsimp only at hSw); first | (go_simp; done) | (go_simp; with_reducible rfl)⟩) hHeld ?_
        simp only [Act.put, List.setIfInBounds_toArray, List.set_cons_zero, List.set_cons_succ]
        refine wpAnyH_take (i := 5) (oi := _) (v := _) (by simp only [List.getElem?_toArray, List.getElem?_cons_succ, List.getElem?_cons_zero]; rfl) (by kernel_rfl) (by kernel_rfl) (by kernel_rfl) (by exact fun _ _ _ h => h) (Or.inl ⟨by rfl, by intro w' hSw; (try dsimp only at hSw); first | (go_simp; done) | (go_simp; with_reducible rfl)⟩) hHeld ?_
        simp only [Act.put, List.setIfInBounds_toArray, List.set_cons_zero, List.set_cons_succ]
        refine wpAnyH_take (i := 6) (oi := _) (v := _) (by simp only [List.getElem?_toArray, List.getElem?_cons_succ, List.getElem?_cons_zero]; rfl) (by kernel_rfl) (by kernel_rfl) (by kernel_rfl) (by exact fun _ _ _ h => h) (Or.inl ⟨by rfl, by intro w' hSw; (try dsimp only at hSw); first | (go_simp; done) | (go_simp; with_reducible rfl)⟩) hHeld ?_
        simp only [Act.put, List.setIfInBounds_toArray, List.set_cons_zero, List.set_cons_succ]
        refine wpAnyH_take (i := 7) (oi := _) (v := _) (by simp only [List.getElem?_toArray, List.getElem?_cons_succ, List.getElem?_cons_zero]; rfl) (by kernel_rfl) (by kernel_rfl) (by kernel_rfl) (by exact fun _ _ _ h => h) (Or.inl ⟨by rfl, by intro w' hSw; (try dsimp only at hSw); first | (go_simp; done) | (go_simp; with_reducible rfl)⟩) hHeld ?_
        simp only [Act.put, List.setIfInBounds_toArray, List.set_cons_zero, List.set_cons_succ]
        refine wpAnyH_take (i := 8) (oi := _) (v := _) (by simp only [List.getElem?_toArray, List.getElem?_cons_succ, List.getElem?_cons_zero]; rfl) (by kernel_rfl) (by kernel_rfl) (by kernel_rfl) (by exact fun _ _ _ h => h) (Or.inl ⟨by rfl, by intro w' hSw; (try dsimp only at hSw); first | (go_simp; done) | (go_simp; with_reducible rfl)⟩) hHeld ?_
        simp only [Act.put, List.setIfInBounds_toArray, List.set_cons_zero, List.set_cons_succ]
        refine wpAnyH_take (i := 9) (oi := _) (v := _) (by simp only [List.getElem?_toArray, List.getElem?_cons_succ, List.getElem?_cons_zero]; rfl) (by kernel_rfl) (by kernel_rfl) (by kernel_rfl) (by exact fun _ _ _ h => h) (Or.inl ⟨by rfl, by intro w' hSw; (try dsimp only at hSw); first | (go_simp; done) | (go_simp; with_reducible rfl)⟩) hHeld ?_
        simp only [Act.put, List.setIfInBounds_toArray, List.set_cons_zero, List.set_cons_succ]
        refine wpAnyH_take (i := 10) (oi := _) (v := _) (by simp only [List.getElem?_toArray, List.getElem?_cons_succ, List.getElem?_cons_zero]; rfl) (by kernel_rfl) (by kernel_rfl) (by kernel_rfl) (by exact fun _ _ _ h => h) (Or.inl ⟨by rfl, by intro w' hSw; (try dsimp only at hSw); first | (go_simp; done) | (go_simp; with_reducible rfl)⟩) hHeld ?_
        simp only [Act.put, List.setIfInBounds_toArray, List.set_cons_zero, List.set_cons_succ]
        refine wpAnyH_take (i := 11) (oi := _) (v := _) (by simp only [List.getElem?_toArray, List.getElem?_cons_succ, List.getElem?_cons_zero]; rfl) (by kernel_rfl) (by kernel_rfl) (by kernel_rfl) (by exact fun _ _ _ h => h) (Or.inl ⟨by rfl, by intro w' hSw; (try dsimp only at hSw); first | (go_simp; done) | (go_simp; with_reducible rfl)⟩) hHeld ?_
        simp only [Act.put, List.setIfInBounds_toArray, List.set_cons_zero, List.set_cons_succ]
        refine wpAnyH_take (i := 12) (oi := _) (v := _) (by simp only [List.getElem?_toArray, List.getElem?_cons_succ, List.getElem?_cons_zero]; rfl) (by kernel_rfl) (by kernel_rfl) (by kernel_rfl) (by exact fun _ _ _ h => h) (Or.inl ⟨by rfl, by intro w' hSw; (try dsimp only at hSw); first | (go_simp; done) | (go_simp; with_reducible rfl)⟩) hHeld ?_
        simp only [Act.put, List.setIfInBounds_toArray, List.set_cons_zero, List.set_cons_succ]
        refine wpAnyH_take (i := 13) (oi := _) (v := _) (by simp only [List.getElem?_toArray, List.getElem?_cons_succ, List.getElem?_cons_zero]; rfl) (by kernel_rfl) (by kernel_rfl) (by kernel_rfl) (by exact fun _ _ _ h => h) (Or.inl ⟨by rfl, by intro w' hSw; (try dsimp only at hSw); first | (go_simp; done) | (go_simp; with_reducible rfl)⟩) hHeld ?_
        simp only [Act.put, List.setIfInBounds_toArray, List.set_cons_zero, List.set_cons_succ]
        refine wpAnyH_take (i := 14) (oi := _) (v := _) (by simp only [List.getElem?_toArray, List.getElem?_cons_succ, List.getElem?_cons_zero]; rfl) (by kernel_rfl) (by kernel_rfl) (by kernel_rfl) (by exact fun _ _ _ h => h) (Or.inl ⟨by rfl, by intro w' hSw; (try dsimp only at hSw); first | (go_simp; done) | (go_simp; with_reducible rfl)⟩) hHeld ?_
        simp only [Act.put, List.setIfInBounds_toArray, List.set_cons_zero, List.set_cons_succ]
        refine wpAnyH_ready (rs := [15, 19]) (by kernel_rfl) (by simp) ?_
        refine (AllReadyH.cons rfl (fun K hK => ?_) (AllReadyH.cons rfl (fun K hK => ?_) AllReadyH.nil))
        · skip
          go_simp
          go_wp2_with fail
          rw [HP.out, HQ.out]
          refine (hG wr.drew (row_below HX.out.row HBd.out (Nat.le_refl _))).mono ?_
          rintro r w3 hg3
          obtain ⟨ver3, a3, n3, c3, ev, rfl, hev, hb3⟩ := hg3.either
          clear hg3
          have HB3 : Hid (Below wr.drew.heap.size wr.drew w3) := hb3
          have HEV : Hid (_ ∨ _) := hev
          refine hK.out _ _ ⟨(hb3.cell (p := ⟨xb, 0, none⟩) (lt_of_cell hHeld.1)).trans hHeld.1, (hb3.cell (p := ⟨xb, 1, none⟩) (lt_of_cell hHeld.2.1)).trans hHeld.2.1, (hb3.cell (p := ⟨ib, off + k * 2, none⟩) (lt_of_cell hHeld.2.2.1)).trans hHeld.2.2.1, (hb3.cell (p := ⟨ib, off + k * 2 + 1, none⟩) (lt_of_cell hHeld.2.2.2)).trans hHeld.2.2.2⟩ (fun hHeld => ?_)
          clear hK K hb3 hev
          have hH3 : Hid (_ ∧ _) := hHeld
          refine wpAnyH_take (i := 16) (oi := _) (v := _) (by simp only [List.getElem?_toArray, List.getElem?_cons_succ, List.getElem?_cons_zero]; rfl) (by kernel_rfl) (by kernel_rfl) (by kernel_rfl) (by exact fun _ _ _ h => h) (Or.inl ⟨by rfl, by intro w' hSw; (try dsimp only at hSw); first | (go_simp; done) | (go_simp; with_reducible rfl)⟩) hHeld ?_
          simp only [Act.put, List.setIfInBounds_toArray, List.set_cons_zero, List.set_cons_succ]
          refine wpAnyH_take (i := 17) (oi := _) (v := _) (by simp only [List.getElem?_toArray, List.getElem?_cons_succ, List.getElem?_cons_zero]; rfl) (by kernel_rfl) (by kernel_rfl) (by kernel_rfl) (by exact fun _ _ _ h => h) (Or.inl ⟨by rfl, by intro w' hSw; (try dsimp only at hSw); first | (go_simp; done) | (go_simp; with_reducible rfl)⟩) hHeld ?_
          simp only [Act.put, List.setIfInBounds_toArray, List.set_cons_zero, List.set_cons_succ]
          refine wpAnyH_take (i := 18) (oi := _) (v := _) (by simp only [List.getElem?_toArray, List.getElem?_cons_succ, List.getElem?_cons_zero]; rfl) (by kernel_rfl) (by kernel_rfl) (by kernel_rfl) (by exact fun _ _ _ h => h) (Or.inl ⟨by rfl, by intro w' hSw; (try dsimp only at hSw); first | (go_simp; done) | (go_simp; with_reducible rfl)⟩) hHeld ?_
          simp only [Act.put, List.setIfInBounds_toArray, List.set_cons_zero, List.set_cons_succ]
          refine wpAnyH_ready (rs := [19]) (by kernel_rfl) (by simp) ?_
          refine AllReadyH.cons rfl (fun K hK => ?_) AllReadyH.nil
          go_simp
          go_wp2_with fail
          have hb4 : Below w3.heap.size w3 (w3.alloc (Obj.cells #[.int .i64 0, .slice none 0 0] 26)) := (Below.refl _ _).alloc (Nat.le_refl _) _
          refine hK.out _ _ ⟨(hb4.cell (p := ⟨xb, 0, none⟩) (lt_of_cell hHeld.1)).trans hHeld.1, (hb4.cell (p := ⟨xb, 1, none⟩) (lt_of_cell hHeld.2.1)).trans hHeld.2.1, (hb4.cell (p := ⟨ib, off + k * 2, none⟩) (lt_of_cell hHeld.2.2.1)).trans hHeld.2.2.1, (hb4.cell (p := ⟨ib, off + k * 2 + 1, none⟩) (lt_of_cell hHeld.2.2.2)).trans hHeld.2.2.2⟩ (fun hHeld => ?_)
          clear hK K hb4
          refine wpAnyH_ready (rs := [20]) (by kernel_rfl) (by simp) ?_
          refine AllReadyH.cons rfl (fun K hK => ?_) AllReadyH.nil
          go_simp
          go_wp2_with fail
          have hb5 : Below w3.heap.size w3 (w3.alloc (Obj.cells #[.int .i64 ver3, .slice a3 n3 c3] 26)) := (Below.refl _ _).alloc (Nat.le_refl _) _
          have HBZ : Hid (Below wr.heap.size wr (w3.alloc (Obj.cells #[.int .i64 ver3, .slice a3 n3 c3] 26))) := (HBd.out.trans HB3.out).alloc (HBd.out.trans HB3.out).size _
          have HNZ : Hid ((w3.alloc (Obj.cells #[.int .i64 ver3, .slice a3 n3 c3] 26)).heap[w3.heap.size]? = some (.cells #[.int .i64 ver3, .slice a3 n3 c3] 26 (0, 0))) := heap_alloc_new _ _
          have HEZ : Hid (EvAt wr (w3.alloc (Obj.cells #[.int .i64 ver3, .slice a3 n3 c3] 26)) ver ver3 l ⟨p, q⟩ a3 n3 c3 ev) := by
            rcases HEV.out with ⟨h1, h2, h3, h4, h5⟩ | h
            · exact .inl ⟨h1, h2, h3, h4, World.ownsRow.alloc h5 _⟩
            · exact .inr h
          refine hK.out _ _ ⟨(hb5.cell (p := ⟨xb, 0, none⟩) (lt_of_cell hH3.out.1)).trans hH3.out.1, (hb5.cell (p := ⟨xb, 1, none⟩) (lt_of_cell hH3.out.2.1)).trans hH3.out.2.1, (hb5.cell (p := ⟨ib, off + k * 2, none⟩) (lt_of_cell hH3.out.2.2.1)).trans hH3.out.2.2.1, (hb5.cell (p := ⟨ib, off + k * 2 + 1, none⟩) (lt_of_cell hH3.out.2.2.2)).trans hH3.out.2.2.2⟩ (fun hHeld => ?_)
          clear hK K hb5 HEV HB3
          refine wpAnyH_take (i := 21) (oi := _) (v := _) (by simp only [List.getElem?_toArray, List.getElem?_cons_succ, List.getElem?_cons_zero]; rfl) (by kernel_rfl) (by kernel_rfl) (by kernel_rfl) (by exact fun _ _ _ h => h) (Or.inl ⟨by rfl, by intro w' hSw; (try dsimp only at hSw); first | (go_simp; done) | (go_simp; with_reducible rfl)⟩) hHeld ?_
          simp only [Act.put, List.setIfInBounds_toArray, List.set_cons_zero, List.set_cons_succ]
          refine wpAnyH_done (by kernel_rfl) ?_ _
          generalize (w3.alloc (Obj.cells #[.int .i64 ver3, .slice a3 n3 c3] 26)) = wz at *
          have HXZ : Hid (InoAt wz xb ver xa xn xc l) := HX.out.below HBZ.out
          have HMZ : Hid (wz.heap[w.heap.size]? = some (.cells #[.int .i64 mp, .int .i64 ml] 41 (0, 0))) := (HBZ.out.block _ (lt_of_heap HM.out)).trans HM.out
          have HBW : Hid (Below w.heap.size w wz) := HB.out.trans (HBZ.out.mono HB.out.size)
          have hxbl : xb < wr.heap.size := lt_of_heap HX.out.blk
          have hwx := HXW.out
          clear x0 x1 i0 i1 hHeld hG
          rcases HEZ.out with ⟨rfl, hg0, rfl, hn3, hr3⟩ | ⟨hg0, er, rfl⟩
          · have HR3 : Hid (Row wz wr.heap.size (.slice a3 n3 c3) (appF l ⟨p, q⟩)) := hr3
            have HL3 : Hid ((appF l ⟨p, q⟩).length = n3) := hn3
            have HOK : Hid (OkL (appF l ⟨p, q⟩)) := appF_ok HX.out.ok (growE_ok hg0)
            have hn3' : n3 ≤ k + 1 := by have h1 := appF_length l ⟨p, q⟩; have h2 := HX.out.len; omega
            obtain ⟨m0, m1, m2, m3⟩ := agg2 HNZ.out
            obtain ⟨x0, x1, x2, x3⟩ := agg2 HXZ.out.blk
            clear hr3 hn3 hg0 HEZ
            go_wp2
            go_roundw
            case rel => exact ⟨k + 1, ver + 1, a3, n3, c3, appF l ⟨p, q⟩, ⟨by omega, by omega⟩, by go_num, by omega, hn3', HX.out.put HBZ.out HR3.out HL3.out HOK.out, (set2_other (by omega) _ _).trans HMZ.out, set2_below HBW.out _ (by omega) _ _⟩
            case measure => simp [intOf]; omega
          · obtain ⟨x0, x1, x2, x3⟩ := agg2 HXZ.out.blk
            clear hg0 HEZ
            go_wp2
            go_roundw
            case rel => exact ⟨k + 1, ver, xa, xn, xc, l, ⟨by omega, by omega⟩, by go_num, by omega, by omega, HXZ.out, HMZ.out, HBW.out⟩
            case measure => simp [intOf]; omega
        · skip
          go_simp
          go_wp2_with fail
          have hb4 : Below wr.drew.heap.size wr.drew (wr.drew.alloc (Obj.cells #[.int .i64 0, .slice none 0 0] 26)) := (Below.refl _ _).alloc (Nat.le_refl _) _
          refine hK.out _ _ ⟨(hb4.cell (p := ⟨xb, 0, none⟩) (lt_of_cell hHeld.1)).trans hHeld.1, (hb4.cell (p := ⟨xb, 1, none⟩) (lt_of_cell hHeld.2.1)).trans hHeld.2.1, (hb4.cell (p := ⟨ib, off + k * 2, none⟩) (lt_of_cell hHeld.2.2.1)).trans hHeld.2.2.1, (hb4.cell (p := ⟨ib, off + k * 2 + 1, none⟩) (lt_of_cell hHeld.2.2.2)).trans hHeld.2.2.2⟩ (fun hHeld => ?_)
          clear hK K hb4
          have HBa : Hid (Below wr.heap.size wr (wr.drew.alloc (Obj.cells #[.int .i64 0, .slice none 0 0] 26))) := (HBd.out.alloc HBd.out.size _)
          refine wpAnyH_ready (rs := [15]) (by kernel_rfl) (by simp) ?_
          refine AllReadyH.cons rfl (fun K hK => ?_) AllReadyH.nil
          go_simp
          go_wp2_with fail
          rw [HP.out, HQ.out]
          refine (hG (wr.drew.alloc (Obj.cells #[.int .i64 0, .slice none 0 0] 26)) (row_below HX.out.row HBa.out (Nat.le_refl _))).mono ?_
          rintro r w3 hg3
          obtain ⟨ver3, a3, n3, c3, ev, rfl, hev, hb3⟩ := hg3.either
          clear hg3
          have HB3 : Hid (Below (wr.drew.alloc (Obj.cells #[.int .i64 0, .slice none 0 0] 26)).heap.size (wr.drew.alloc (Obj.cells #[.int .i64 0, .slice none 0 0] 26)) w3) := hb3
          have HEV : Hid (_ ∨ _) := hev
          refine hK.out _ _ ⟨(hb3.cell (p := ⟨xb, 0, none⟩) (lt_of_cell hHeld.1)).trans hHeld.1, (hb3.cell (p := ⟨xb, 1, none⟩) (lt_of_cell hHeld.2.1)).trans hHeld.2.1, (hb3.cell (p := ⟨ib, off + k * 2, none⟩) (lt_of_cell hHeld.2.2.1)).trans hHeld.2.2.1, (hb3.cell (p := ⟨ib, off + k * 2 + 1, none⟩) (lt_of_cell hHeld.2.2.2)).trans hHeld.2.2.2⟩ (fun hHeld => ?_)
          clear hK K hb3 hev
          refine wpAnyH_take (i := 16) (oi := _) (v := _) (by simp only [List.getElem?_toArray, List.getElem?_cons_succ, List.getElem?_cons_zero]; rfl) (by kernel_rfl) (by kernel_rfl) (by kernel_rfl) (by exact fun _ _ _ h => h) (Or.inl ⟨by rfl, by intro w' hSw; (try dsimp only at hSw); first | (go_simp; done) | (go_simp; with_reducible rfl)⟩) hHeld ?_
          simp only [Act.put, List.setIfInBounds_toArray, List.set_cons_zero, List.set_cons_succ]
          refine wpAnyH_take (i := 17) (oi := _) (v := _) (by simp only [List.getElem?_toArray, List.getElem?_cons_succ, List.getElem?_cons_zero]; rfl) (by kernel_rfl) (by kernel_rfl) (by kernel_rfl) (by exact fun _ _ _ h => h) (Or.inl ⟨by rfl, by intro w' hSw; (try dsimp only at hSw); first | (go_simp; done) | (go_simp; with_reducible rfl)⟩) hHeld ?_
          simp only [Act.put, List.setIfInBounds_toArray, List.set_cons_zero, List.set_cons_succ]
          refine wpAnyH_take (i := 18) (oi := _) (v := _) (by simp only [List.getElem?_toArray, List.getElem?_cons_succ, List.getElem?_cons_zero]; rfl) (by kernel_rfl) (by kernel_rfl) (by kernel_rfl) (by exact fun _ _ _ h => h) (Or.inl ⟨by rfl, by intro w' hSw; (try dsimp only at hSw); first | (go_simp; done) | (go_simp; with_reducible rfl)⟩) hHeld ?_
          simp only [Act.put, List.setIfInBounds_toArray, List.set_cons_zero, List.set_cons_succ]
          refine wpAnyH_ready (rs := [20]) (by kernel_rfl) (by simp) ?_
          refine AllReadyH.cons rfl (fun K hK => ?_) AllReadyH.nil
          have HN3 : Hid (w3.heap[wr.heap.size]? = some (.cells #[.int .i64 0, .slice none 0 0] 26 (0, 0))) := (HB3.out.block wr.heap.size (by simp)).trans (heap_alloc_new wr.drew _)
          obtain ⟨y0, y1, y2, y3⟩ := agg2 HN3.out
          go_simp
          go_wp2_with fail
          have hxbl : xb < wr.heap.size := lt_of_heap HX.out.blk
          have HBZ : Hid (Below wr.heap.size wr ((w3.setCell ⟨wr.heap.size, 0, none⟩ (.int .i64 ver3)).setCell ⟨wr.heap.size, 1, none⟩ (.slice a3 n3 c3))) := set2_below (HBa.out.trans (HB3.out.mono HBa.out.size)) _ (Nat.le_refl _) _ _
          have HNZ : Hid (((w3.setCell ⟨wr.heap.size, 0, none⟩ (.int .i64 ver3)).setCell ⟨wr.heap.size, 1, none⟩ (.slice a3 n3 c3)).heap[wr.heap.size]? = some (.cells #[.int .i64 ver3, .slice a3 n3 c3] 26 (0, 0))) := set2_heap HN3.out _ _
          have HEZ : Hid (EvAt wr ((w3.setCell ⟨wr.heap.size, 0, none⟩ (.int .i64 ver3)).setCell ⟨wr.heap.size, 1, none⟩ (.slice a3 n3 c3)) ver ver3 l ⟨p, q⟩ a3 n3 c3 ev) := by
            rcases HEV.out with ⟨h1, h2, h3, h4, h5⟩ | h
            · refine .inl ⟨h1, h2, h3, h4, row_base (row_keep h5 (fun g e => set2_other ?_ _ _)) (by simp)⟩
              have := row_ge h5 g e
              simp at this
              omega
            · exact .inr h
          have hc : ∀ b i v, b < wr.heap.size → w3.cell? ⟨b, i, none⟩ = some v → ((w3.setCell ⟨wr.heap.size, 0, none⟩ (.int .i64 ver3)).setCell ⟨wr.heap.size, 1, none⟩ (.slice a3 n3 c3)).cell? ⟨b, i, none⟩ = some v := fun b i v hb h => by rw [World.cell?_setCell_other _ _ _ _ (by intro h; simp only [Addr.mk.injEq] at h; omega), World.cell?_setCell_other _ _ _ _ (by intro h; simp only [Addr.mk.injEq] at h; omega)]; exact h
          refine hK.out _ _ ⟨hc _ _ _ hxbl hHeld.1, hc _ _ _ hxbl hHeld.2.1, hc _ _ _ hibl hHeld.2.2.1, hc _ _ _ hibl hHeld.2.2.2⟩ (fun hHeld => ?_)
          clear hK K HEV HB3 HN3 hxbl y0 y1 y2 y3 hc
          refine wpAnyH_take (i := 21) (oi := _) (v := _) (by simp only [List.getElem?_toArray, List.getElem?_cons_succ, List.getElem?_cons_zero]; rfl) (by kernel_rfl) (by kernel_rfl) (by kernel_rfl) (by exact fun _ _ _ h => h) (Or.inl ⟨by rfl, by intro w' hSw; (try dsimp only at hSw); first | (go_simp; done) | (go_simp; with_reducible rfl)⟩) hHeld ?_
          simp only [Act.put, List.setIfInBounds_toArray, List.set_cons_zero, List.set_cons_succ]
          refine wpAnyH_done (by kernel_rfl) ?_ _
          generalize ((w3.setCell ⟨wr.heap.size, 0, none⟩ (.int .i64 ver3)).setCell ⟨wr.heap.size, 1, none⟩ (.slice a3 n3 c3)) = wz at *
          have HXZ : Hid (InoAt wz xb ver xa xn xc l) := HX.out.below HBZ.out
          have HMZ : Hid (wz.heap[w.heap.size]? = some (.cells #[.int .i64 mp, .int .i64 ml] 41 (0, 0))) := (HBZ.out.block _ (lt_of_heap HM.out)).trans HM.out
          have HBW : Hid (Below w.heap.size w wz) := HB.out.trans (HBZ.out.mono HB.out.size)
          have hxbl : xb < wr.heap.size := lt_of_heap HX.out.blk
          have hwx := HXW.out
          clear x0 x1 i0 i1 hHeld hG
          rcases HEZ.out with ⟨rfl, hg0, rfl, hn3, hr3⟩ | ⟨hg0, er, rfl⟩
          · have HR3 : Hid (Row wz wr.heap.size (.slice a3 n3 c3) (appF l ⟨p, q⟩)) := hr3
            have HL3 : Hid ((appF l ⟨p, q⟩).length = n3) := hn3
            have HOK : Hid (OkL (appF l ⟨p, q⟩)) := appF_ok HX.out.ok (growE_ok hg0)
            have hn3' : n3 ≤ k + 1 := by have h1 := appF_length l ⟨p, q⟩; have h2 := HX.out.len; omega
            obtain ⟨m0, m1, m2, m3⟩ := agg2 HNZ.out
            obtain ⟨x0, x1, x2, x3⟩ := agg2 HXZ.out.blk
            clear hr3 hn3 hg0 HEZ
            go_wp2
            go_roundw
            case rel => exact ⟨k + 1, ver + 1, a3, n3, c3, appF l ⟨p, q⟩, ⟨by omega, by omega⟩, by go_num, by omega, hn3', HX.out.put HBZ.out HR3.out HL3.out HOK.out, (set2_other (by omega) _ _).trans HMZ.out, set2_below HBW.out _ (by omega) _ _⟩
            case measure => simp [intOf]; omega
          · obtain ⟨x0, x1, x2, x3⟩ := agg2 HXZ.out.blk
            clear hg0 HEZ
            go_wp2
            go_roundw
            case rel => exact ⟨k + 1, ver, xa, xn, xc, l, ⟨by omega, by omega⟩, by go_num, by omega, by omega, HXZ.out, HMZ.out, HBW.out⟩
            case measure => simp [intOf]; omega
    · have hln : l.length = xn := HX.out.len
      have hend : (k : Int) < (len : Int) → ¬ (k : Int) < 30 := fun h1 h2 => hlt ⟨by omega, by omega⟩
      clear hlt HI0
      obtain ⟨S, hS⟩ : ∃ S, sizeF l = S := ⟨_, rfl⟩
      have hS0 : 0 ≤ S := by rw [← hS]; exact sizeF_nonneg HX.out.ok
      have hS1 : S ≤ 61440 := by have := sizeF_le HX.out.ok; rw [hS] at this; omega
      have hSz := size_any (w := wr) ver (.slice xa xn xc) l HX.out.row (by omega) HX.out.ok
      rw [hS] at hSz
      simp only [ino] at hSz
      have HS : Hid (sizeF l = S) := hS
      clear hS
      obtain ⟨x0, x1, x2, x3⟩ := agg2 HX.out.blk
      by_cases hA : (k : Int) < (len : Int)
      all_goals
        go_wp2_with fail
        refine hSz.mono ?_
        rintro r w3 ⟨rfl, hb3⟩
        have HX3 : Hid (InoAt w3 xb ver xa xn xc l) := HX.out.below hb3
        have HM3 : Hid (w3.heap[w.heap.size]? = some (.cells #[.int .i64 mp, .int .i64 ml] 41 (0, 0))) := (hb3.block _ (lt_of_heap HM.out)).trans HM.out
        have HB3 : Hid (Below w.heap.size w w3) := HB.out.trans (hb3.mono HB.out.size)
        clear hb3 hSz x0 x1 x2 x3
        obtain ⟨x0, x1, x2, x3⟩ := agg2 HX3.out.blk
        obtain ⟨m0, m1, m2, m3⟩ := agg2 HM3.out
        clear hend hA
        obtain ⟨p, hp, hp0, hp1⟩ : ∃ p, bits BinOp.and IntKind.i64 mp 1023 = p ∧ 0 ≤ p ∧ p ≤ 1023 := ⟨_, rfl, by rw [and1023]; omega, by rw [and1023]; omega⟩
        obtain ⟨q, hq, hq0, hq1⟩ : ∃ q, wrap64 (1 + bits BinOp.and IntKind.i64 ml 15) = q ∧ 1 ≤ q ∧ q ≤ 16 := ⟨_, rfl, by rw [and15]; unfold wrap64; omega, by rw [and15]; unfold wrap64; omega⟩
        have HP : Hid (_ = _) := hp
        have HQ : Hid (_ = _) := hq
        clear hp hq
        have hG := grow_any (w := w3) (B := 0) ver (.slice xa xn xc) l ⟨p, q⟩ HX3.out.row (by omega) HX3.out.ok (by omega) (by dsimp only; omega)
        simp only [ino, Ext.agg] at hG
        go_wp2_with fail
        rw [HP.out, HQ.out]
        refine hG.mono ?_
        rintro r w4 hg4
        obtain ⟨ver4, a4, n4, c4, ev, rfl, hev, hb4⟩ := hg4.either
        clear hg4 hG x0 x1 x2 x3 m0 m1 m2 m3
        have HX4 : Hid (InoAt w4 xb ver xa xn xc l) := HX3.out.below hb4
        have HB4 : Hid (Below w.heap.size w w4) := HB3.out.trans (hb4.mono HB3.out.size)
        have hxl : xb < w4.heap.size := lt_of_heap HX4.out.blk
        obtain ⟨left, hleft, hl0, hlS⟩ : ∃ left, (wrap64 (wrap64 (cut.tmod (S + 1) + S) + 1)).tmod (S + 1) = left ∧ 0 ≤ left ∧ left ≤ S := by
          obtain ⟨h1, h2⟩ := Le.tmod_bounds cut (S + 1) (by omega)
          have e2 : wrap64 (wrap64 (cut.tmod (S + 1) + S) + 1) = cut.tmod (S + 1) + (S + 1) := by unfold wrap64; omega
          rw [e2]
          refine ⟨_, rfl, ?_, ?_⟩
          · rw [Int.tmod_eq_emod_of_nonneg (by omega)]; exact Int.emod_nonneg _ (by omega)
          · rw [Int.tmod_eq_emod_of_nonneg (by omega)]; have := Int.emod_lt_of_pos (cut.tmod (S + 1) + (S + 1)) (show 0 < S + 1 by omega); omega
        have HLE : Hid (_ = left) := hleft
        clear hleft
        have HEV : Hid (EvAt w3 w4 ver ver4 l ⟨p, q⟩ a4 n4 c4 ev) := hev
        clear hev hb4
        rcases HEV.out with ⟨rfl, hg0, rfl, hn4, hr4⟩ | ⟨hg0, er, rfl⟩
        · have HYR : Hid (Row w4 0 (.slice a4 n4 c4) (appF l ⟨p, q⟩)) := row_base hr4 (Nat.zero_le _)
          have HYL : Hid ((appF l ⟨p, q⟩).length = n4) := hn4
          have HYO : Hid (OkL (appF l ⟨p, q⟩)) := appF_ok HX4.out.ok (growE_ok hg0)
          have HYS : Hid (S ≤ sizeF (appF l ⟨p, q⟩)) := by show _ ≤ _; rw [appF_size, HS.out]; dsimp only; omega
          have HYM : Hid (∀ i, 0 ≤ i → i < S → mapF (appF l ⟨p, q⟩) i = mapF l i) := fun i h0 h1 => appF_map (growE_ok hg0) HX4.out.ok i h0 (by rw [HS.out]; exact h1)
          have hn4' : n4 ≤ 31 := by have h1 := appF_length l ⟨p, q⟩; omega
          clear hn4 hr4 hg0
          generalize appF l ⟨p, q⟩ = yl at *
          obtain ⟨w5, hw5⟩ : ∃ w5, w5 = w4.alloc (Obj.cells #[.int .i64 (ver + 1), .slice a4 n4 c4] 26) := ⟨_, rfl⟩
          have hb5 : Below w4.heap.size w4 w5 := by rw [hw5]; exact (Below.refl _ _).alloc (Nat.le_refl _) _
          have HX5 : Hid (InoAt w5 xb ver xa xn xc l) := HX4.out.below hb5
          have HY5 : Hid (InoAt w5 w4.heap.size (ver + 1) a4 n4 c4 yl) := by
            rw [hw5]
            exact ⟨heap_alloc_new _ _, World.ownsRow.alloc HYR.out _, HYL.out, HYO.out, fun g e => by have := row_lt HYR.out g e; omega⟩
          have HB5 : Hid (Below w.heap.size w w5) := HB4.out.trans (hb5.mono HB4.out.size)
          have hC := cut_any (w := w5) (B := 0) (ver + 1) (.slice a4 n4 c4) yl left HY5.out.row (by have := HY5.out.len; omega) HY5.out.ok (by omega) (by omega)
          simp only [ino] at hC
          obtain ⟨yb, hyb⟩ : ∃ yb, yb = w4.heap.size := ⟨_, rfl⟩
          go_wp2_with fail
          rw [← hw5, HLE.out, ← hyb]
          rw [← hyb] at HY5
          refine hC.mono ?_
          rintro r w6 ⟨⟨ver6, v6, f6, rfl, hy6, _⟩, hb6⟩
          obtain ⟨hv6, hr6, hf6⟩ := hy6 ⟨hl0, by have := HYS.out; omega⟩
          obtain ⟨a6, c6, rfl, _⟩ := row_slice hr6
          obtain ⟨fa6, fc6, rfl, _⟩ := row_slice hf6
          obtain ⟨n6, hn6⟩ : ∃ n6, (cutK yl left).length = n6 := ⟨_, rfl⟩
          rw [hn6] at hr6
          rw [if_pos ⟨hl0, by have := HYS.out; omega⟩, hn6]
          rw [show errV 0 = .nilIface from rfl, show ino ver6 (.slice a6 n6 c6) = .agg #[.int .i64 ver6, .slice a6 n6 c6] from rfl]
          obtain ⟨zl, hzl⟩ : ∃ zl, zl = cutK yl left := ⟨_, rfl⟩
          obtain ⟨w7, hw7⟩ : ∃ w7, w7 = w6.alloc (Obj.cells #[.int .i64 ver6, .slice a6 n6 c6] 26) := ⟨_, rfl⟩
          have hb7 : Below w5.heap.size w5 w7 := by rw [hw7]; exact hb6.alloc hb6.size _
          have HX7 : Hid (InoAt w7 xb ver xa xn xc l) := HX5.out.below hb7
          have HY7 : Hid (InoAt w7 yb (ver + 1) a4 n4 c4 yl) := HY5.out.below hb7
          have HZ7 : Hid (InoAt w7 w6.heap.size ver6 a6 n6 c6 zl) := by
            rw [hw7, hzl]
            exact ⟨heap_alloc_new _ _, row_base (World.ownsRow.alloc hr6 _) (Nat.zero_le _), hn6, cutK_ok HYO.out _, fun g e => by have := row_lt hr6 g e; omega⟩
          have HB7 : Hid (Below w.heap.size w w7) := HB5.out.trans (hb7.mono HB5.out.size)
          have hzn : n6 ≤ 40 := by rw [← hn6]; have h1 := cutK_length yl left; have h2 := HY5.out.len; omega
          have HZS : Hid (sizeF zl = left) := by show _ = _; rw [hzl, cutK_size HYO.out _ hl0]; have := HYS.out; omega
          have HMX : Hid (∀ i, 0 ≤ i → i < S → ∃ s, mapG l i = some s ∧ mapG yl i = some s ∧ mapG zl i = if i < left then some s else none) := by
            intro i h0 h1
            obtain ⟨s, hs⟩ := mapF_some HX5.out.ok i h0 (by rw [HS.out]; exact h1)
            refine ⟨s, ?_, ?_, ?_⟩
            · unfold mapG; rw [if_neg (by omega)]; exact hs
            · unfold mapG; rw [if_neg (by omega), HYM.out i h0 h1]; exact hs
            · unfold mapG; rw [if_neg (by omega), hzl, cutK_map HYO.out _ _ hl0 h0, HYM.out i h0 h1, hs]
          have hSz := size_any (w := w7) ver6 (.slice a6 n6 c6) zl HZ7.out.row (by have := HZ7.out.len; omega) HZ7.out.ok
          rw [HZS.out] at hSz
          simp only [ino] at hSz
          obtain ⟨zb, hzb⟩ : ∃ zb, zb = w6.heap.size := ⟨_, rfl⟩
          rw [← hzb] at HZ7
          obtain ⟨z0, z1, z2, z3⟩ := agg2 HZ7.out.blk
          clear hC hv6 hf6 hr6 hb6 hb5 hb7 hyb hw5 hzl hn6 HX5 HY5 HB5 HX4 HB4 HEV HYM HYS HYO HYL HYR HZS
          go_wp2_with fail
          rw [← hw7, ← hzb]
          clear hw7 hzb
          refine hSz.mono ?_
          rintro r w8 ⟨rfl, hb8⟩
          have HX8 : Hid (InoAt w8 xb ver xa xn xc l) := HX7.out.below hb8
          have HY8 : Hid (InoAt w8 yb (ver + 1) a4 n4 c4 yl) := HY7.out.below hb8
          have HZ8 : Hid (InoAt w8 zb ver6 a6 n6 c6 zl) := HZ7.out.below hb8
          have HB8 : Hid (Below w.heap.size w w8) := HB7.out.trans (hb8.mono HB7.out.size)
          clear hSz hb8 HX7 HY7 HZ7 HB7 z0 z1 z2 z3 HX3 HM3 HB3 HX HM HB hxl
          go_wp2_with fail
          go_loopw [18] (fun i wr => ∃ j : Nat, (j : Int) ≤ S ∧ i = .int .i64 j ∧ Below w8.heap.size w8 wr) (fun i _ => S.toNat - (intOf i).toNat)
          case atStart => exact ⟨0, by omega, rfl, Below.refl _ _⟩
          case round =>
            obtain ⟨j, hj, rfl, hbq⟩ := hrel
            have HBQ : Hid (Below w8.heap.size w8 wr) := hbq
            clear hbq
            by_cases hjS : (j : Int) < S
            · obtain ⟨s, hm1, hm2, hm3⟩ := HMX.out j (by omega) hjS
              have M1 := map_any (w := wr) ver (.slice xa xn xc) l j (HX8.out.below HBQ.out).row (by omega) HX8.out.ok (by omega)
              have X1 := HX8.out.below HBQ.out
              rw [hm1, show optV (some s) = .tuple #[.int .i64 s, .bool true] from rfl] at M1
              simp only [ino] at M1
              obtain ⟨c0, c1, _, _⟩ := agg2 X1.blk
              clear X1 hm1
              go_wp2_with fail
              refine M1.mono ?_
              rintro r wa ⟨rfl, hba⟩
              have HBA : Hid (Below w8.heap.size w8 wa) := HBQ.out.trans (hba.mono HBQ.out.size)
              clear M1 hba c0 c1
              have M2 := map_any (w := wa) (ver + 1) (.slice a4 n4 c4) yl j (HY8.out.below HBA.out).row (by have := HY8.out.len; omega) HY8.out.ok (by omega)
              have X2 := HY8.out.below HBA.out
              rw [hm2, show optV (some s) = .tuple #[.int .i64 s, .bool true] from rfl] at M2
              simp only [ino] at M2
              obtain ⟨c0, c1, _, _⟩ := agg2 X2.blk
              clear X2 hm2
              go_wp2_with fail
              refine M2.mono ?_
              rintro r wb ⟨rfl, hbb⟩
              have HBB : Hid (Below w8.heap.size w8 wb) := HBA.out.trans (hbb.mono HBA.out.size)
              clear M2 hbb c0 c1
              have M3 := map_any (w := wb) ver6 (.slice a6 n6 c6) zl j (HZ8.out.below HBB.out).row (by have := HZ8.out.len; omega) HZ8.out.ok (by omega)
              have X3 := HZ8.out.below HBB.out
              rw [hm3] at M3
              simp only [ino] at M3
              obtain ⟨c0, c1, _, _⟩ := agg2 X3.blk
              clear X3 hm3
              by_cases hjl : (j : Int) < left
              · rw [if_pos hjl, show optV (some s) = .tuple #[.int .i64 s, .bool true] from rfl] at M3
                go_wp2_with fail
                refine M3.mono ?_
                rintro r wc ⟨rfl, hbc⟩
                have HBC : Hid (Below w8.heap.size w8 wc) := HBB.out.trans (hbc.mono HBB.out.size)
                clear M3 hbc c0 c1
                have hdj : decide ((j : Int) < left) = true := decide_eq_true hjl
                go_wp2
                go_roundw
                case rel => exact ⟨j + 1, by omega, by go_num, HBC.out⟩
                case measure => simp [intOf]; omega
              · rw [if_neg hjl, show optV none = .tuple #[.int .i64 0, .bool false] from rfl] at M3
                go_wp2_with fail
                refine M3.mono ?_
                rintro r wc ⟨rfl, hbc⟩
                have HBC : Hid (Below w8.heap.size w8 wc) := HBB.out.trans (hbc.mono HBB.out.size)
                clear M3 hbc c0 c1
                have hdj : decide ((j : Int) < left) = false := decide_eq_false (by omega)
                go_wp2
                go_roundw
                case rel => exact ⟨j + 1, by omega, by go_num, HBC.out⟩
                case measure => simp [intOf]; omega
            · go_wp2
              go_ret
              exact ⟨rfl, HB8.out.trans (HBQ.out.mono HB8.out.size)⟩
        · obtain ⟨yl, hyl⟩ : ∃ yl, yl = l := ⟨_, rfl⟩
          have HYR : Hid (Row w4 0 (.slice xa xn xc) yl) := by rw [hyl]; exact HX4.out.row
          have HYL : Hid (yl.length = xn) := by rw [hyl]; exact hln
          have HYO : Hid (OkL yl) := by rw [hyl]; exact HX4.out.ok
          have HYS : Hid (S ≤ sizeF yl) := by show _ ≤ _; rw [hyl, HS.out]; omega
          have HYM : Hid (∀ i, 0 ≤ i → i < S → mapF yl i = mapF l i) := fun i _ _ => by rw [hyl]
          clear hyl
          have hxa0 : ∀ o, (w4.alloc o).cell? ⟨xb, 0, none⟩ = some (.int .i64 ver) := fun o => cell_of_heap ((Below.heap_alloc _ _ _ hxl).trans HX4.out.blk) 0 _ rfl
          have hxa1 : ∀ o, (w4.alloc o).cell? ⟨xb, 1, none⟩ = some (.slice xa xn xc) := fun o => cell_of_heap ((Below.heap_alloc _ _ _ hxl).trans HX4.out.blk) 1 _ rfl
          clear hg0
          obtain ⟨w5, hw5⟩ : ∃ w5, w5 = w4.alloc (Obj.cells #[.int .i64 ver, .slice xa xn xc] 26) := ⟨_, rfl⟩
          have hb5 : Below w4.heap.size w4 w5 := by rw [hw5]; exact (Below.refl _ _).alloc (Nat.le_refl _) _
          have HX5 : Hid (InoAt w5 xb ver xa xn xc l) := HX4.out.below hb5
          have HY5 : Hid (InoAt w5 w4.heap.size ver xa xn xc yl) := by
            rw [hw5]
            exact ⟨heap_alloc_new _ _, World.ownsRow.alloc HYR.out _, HYL.out, HYO.out, fun g e => by have := row_lt HYR.out g e; omega⟩
          have HB5 : Hid (Below w.heap.size w w5) := HB4.out.trans (hb5.mono HB4.out.size)
          have hC := cut_any (w := w5) (B := 0) ver (.slice xa xn xc) yl left HY5.out.row (by have := HY5.out.len; omega) HY5.out.ok (by omega) (by omega)
          simp only [ino] at hC
          obtain ⟨yb, hyb⟩ : ∃ yb, yb = w4.heap.size := ⟨_, rfl⟩
          go_wp2_with fail
          rw [← hw5, HLE.out, ← hyb]
          rw [← hyb] at HY5
          refine hC.mono ?_
          rintro r w6 ⟨⟨ver6, v6, f6, rfl, hy6, _⟩, hb6⟩
          obtain ⟨hv6, hr6, hf6⟩ := hy6 ⟨hl0, by have := HYS.out; omega⟩
          obtain ⟨a6, c6, rfl, _⟩ := row_slice hr6
          obtain ⟨fa6, fc6, rfl, _⟩ := row_slice hf6
          obtain ⟨n6, hn6⟩ : ∃ n6, (cutK yl left).length = n6 := ⟨_, rfl⟩
          rw [hn6] at hr6
          rw [if_pos ⟨hl0, by have := HYS.out; omega⟩, hn6]
          rw [show errV 0 = .nilIface from rfl, show ino ver6 (.slice a6 n6 c6) = .agg #[.int .i64 ver6, .slice a6 n6 c6] from rfl]
          obtain ⟨zl, hzl⟩ : ∃ zl, zl = cutK yl left := ⟨_, rfl⟩
          obtain ⟨w7, hw7⟩ : ∃ w7, w7 = w6.alloc (Obj.cells #[.int .i64 ver6, .slice a6 n6 c6] 26) := ⟨_, rfl⟩
          have hb7 : Below w5.heap.size w5 w7 := by rw [hw7]; exact hb6.alloc hb6.size _
          have HX7 : Hid (InoAt w7 xb ver xa xn xc l) := HX5.out.below hb7
          have HY7 : Hid (InoAt w7 yb ver xa xn xc yl) := HY5.out.below hb7
          have HZ7 : Hid (InoAt w7 w6.heap.size ver6 a6 n6 c6 zl) := by
            rw [hw7, hzl]
            exact ⟨heap_alloc_new _ _, row_base (World.ownsRow.alloc hr6 _) (Nat.zero_le _), hn6, cutK_ok HYO.out _, fun g e => by have := row_lt hr6 g e; omega⟩
          have HB7 : Hid (Below w.heap.size w w7) := HB5.out.trans (hb7.mono HB5.out.size)
          have hzn : n6 ≤ 40 := by rw [← hn6]; have h1 := cutK_length yl left; have h2 := HY5.out.len; omega
          have HZS : Hid (sizeF zl = left) := by show _ = _; rw [hzl, cutK_size HYO.out _ hl0]; have := HYS.out; omega
          have HMX : Hid (∀ i, 0 ≤ i → i < S → ∃ s, mapG l i = some s ∧ mapG yl i = some s ∧ mapG zl i = if i < left then some s else none) := by
            intro i h0 h1
            obtain ⟨s, hs⟩ := mapF_some HX5.out.ok i h0 (by rw [HS.out]; exact h1)
            refine ⟨s, ?_, ?_, ?_⟩
            · unfold mapG; rw [if_neg (by omega)]; exact hs
            · unfold mapG; rw [if_neg (by omega), HYM.out i h0 h1]; exact hs
            · unfold mapG; rw [if_neg (by omega), hzl, cutK_map HYO.out _ _ hl0 h0, HYM.out i h0 h1, hs]
          have hSz := size_any (w := w7) ver6 (.slice a6 n6 c6) zl HZ7.out.row (by have := HZ7.out.len; omega) HZ7.out.ok
          rw [HZS.out] at hSz
          simp only [ino] at hSz
          obtain ⟨zb, hzb⟩ : ∃ zb, zb = w6.heap.size := ⟨_, rfl⟩
          rw [← hzb] at HZ7
          obtain ⟨z0, z1, z2, z3⟩ := agg2 HZ7.out.blk
          clear hC hv6 hf6 hr6 hb6 hb5 hb7 hyb hw5 hzl hn6 HX5 HY5 HB5 HX4 HB4 HEV HYM HYS HYO HYL HYR HZS
          go_wp2_with fail
          rw [← hw7, ← hzb]
          clear hw7 hzb
          refine hSz.mono ?_
          rintro r w8 ⟨rfl, hb8⟩
          have HX8 : Hid (InoAt w8 xb ver xa xn xc l) := HX7.out.below hb8
          have HY8 : Hid (InoAt w8 yb ver xa xn xc yl) := HY7.out.below hb8
          have HZ8 : Hid (InoAt w8 zb ver6 a6 n6 c6 zl) := HZ7.out.below hb8
          have HB8 : Hid (Below w.heap.size w w8) := HB7.out.trans (hb8.mono HB7.out.size)
          clear hSz hb8 HX7 HY7 HZ7 HB7 z0 z1 z2 z3 HX3 HM3 HB3 HX HM HB hxl
          go_wp2_with fail
          go_loopw [18] (fun i wr => ∃ j : Nat, (j : Int) ≤ S ∧ i = .int .i64 j ∧ Below w8.heap.size w8 wr) (fun i _ => S.toNat - (intOf i).toNat)
          case atStart => exact ⟨0, by omega, rfl, Below.refl _ _⟩
          case round =>
            obtain ⟨j, hj, rfl, hbq⟩ := hrel
            have HBQ : Hid (Below w8.heap.size w8 wr) := hbq
            clear hbq
            by_cases hjS : (j : Int) < S
            · obtain ⟨s, hm1, hm2, hm3⟩ := HMX.out j (by omega) hjS
              have M1 := map_any (w := wr) ver (.slice xa xn xc) l j (HX8.out.below HBQ.out).row (by omega) HX8.out.ok (by omega)
              have X1 := HX8.out.below HBQ.out
              rw [hm1, show optV (some s) = .tuple #[.int .i64 s, .bool true] from rfl] at M1
              simp only [ino] at M1
              obtain ⟨c0, c1, _, _⟩ := agg2 X1.blk
              clear X1 hm1
              go_wp2_with fail
              refine M1.mono ?_
              rintro r wa ⟨rfl, hba⟩
              have HBA : Hid (Below w8.heap.size w8 wa) := HBQ.out.trans (hba.mono HBQ.out.size)
              clear M1 hba c0 c1
              have M2 := map_any (w := wa) ver (.slice xa xn xc) yl j (HY8.out.below HBA.out).row (by have := HY8.out.len; omega) HY8.out.ok (by omega)
              have X2 := HY8.out.below HBA.out
              rw [hm2, show optV (some s) = .tuple #[.int .i64 s, .bool true] from rfl] at M2
              simp only [ino] at M2
              obtain ⟨c0, c1, _, _⟩ := agg2 X2.blk
              clear X2 hm2
              go_wp2_with fail
              refine M2.mono ?_
              rintro r wb ⟨rfl, hbb⟩
              have HBB : Hid (Below w8.heap.size w8 wb) := HBA.out.trans (hbb.mono HBA.out.size)
              clear M2 hbb c0 c1
              have M3 := map_any (w := wb) ver6 (.slice a6 n6 c6) zl j (HZ8.out.below HBB.out).row (by have := HZ8.out.len; omega) HZ8.out.ok (by omega)
              have X3 := HZ8.out.below HBB.out
              rw [hm3] at M3
              simp only [ino] at M3
              obtain ⟨c0, c1, _, _⟩ := agg2 X3.blk
              clear X3 hm3
              by_cases hjl : (j : Int) < left
              · rw [if_pos hjl, show optV (some s) = .tuple #[.int .i64 s, .bool true] from rfl] at M3
                go_wp2_with fail
                refine M3.mono ?_
                rintro r wc ⟨rfl, hbc⟩
                have HBC : Hid (Below w8.heap.size w8 wc) := HBB.out.trans (hbc.mono HBB.out.size)
                clear M3 hbc c0 c1
                have hdj : decide ((j : Int) < left) = true := decide_eq_true hjl
                go_wp2
                go_roundw
                case rel => exact ⟨j + 1, by omega, by go_num, HBC.out⟩
                case measure => simp [intOf]; omega
              · rw [if_neg hjl, show optV none = .tuple #[.int .i64 0, .bool false] from rfl] at M3
                go_wp2_with fail
                refine M3.mono ?_
                rintro r wc ⟨rfl, hbc⟩
                have HBC : Hid (Below w8.heap.size w8 wc) := HBB.out.trans (hbc.mono HBB.out.size)
                clear M3 hbc c0 c1
                have hdj : decide ((j : Int) < left) = false := decide_eq_false (by omega)
                go_wp2
                go_roundw
                case rel => exact ⟨j + 1, by omega, by go_num, HBC.out⟩
                case measure => simp [intOf]; omega
            · go_wp2
              go_ret
              exact ⟨rfl, HB8.out.trans (HBQ.out.mono HB8.out.size)⟩

theorem wf64 {n : Int} (h : (Lit.int .i64 n).wf = true) : -9223372036854775808 ≤ n ∧ n ≤ 9223372036854775807 := by
  simp only [Lit.wf, IntKind.min, IntKind.max, IntKind.signed, IntKind.bits, Bool.and_eq_true, decide_eq_true_eq, if_true] at h
  omega

theorem inodeKeeps_calls {H : Type} {enc : TypeId × Value → H} {sp : Nat → Bool} {held : Bool} {d : DataW H} {p : List MemPlace} (a : Option Addr) (len cap : Nat) (mp ml cut : Int) (w : World)
    (h : DataW.Trod enc Try.prog w 0 sp held 22 (.slice a len cap) d p) (h1 : (Lit.int .i64 mp).wf = true) (h2 : (Lit.int .i64 ml).wf = true) (h3 : (Lit.int .i64 cut).wf = true) :
    Calls Try.prog 4 #[.slice a len cap, .agg #[.int .i64 mp, .int .i64 ml], .int .i64 cut] w fun r w' => r = .returned (.bool true) ∧ Below w.heap.size w w' := by
  obtain ⟨L, hI, hl⟩ := items_of_trod h
  exact inodeKeeps_walk a len cap L mp ml cut w hl hI (wf64 h1) (wf64 h2) (wf64 h3)

end Go.Proofs.Ytkflhakgfpiiaab.Id
