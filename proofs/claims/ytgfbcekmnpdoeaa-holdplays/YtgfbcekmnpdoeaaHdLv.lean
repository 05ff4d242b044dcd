/-
  Somebody leaves the document's holds. No condition.
-/
import Derived.Test.YtgfbcekmnpdoeaaHdFree
namespace Go.Proofs.Ytgfbcekmnpdoeaa.Hdi
open Go.ChangeShapes Go.WideShapes Go.ChangeAt Go.RowKit Go.Proofs.Fa Go.Proofs.Ytgfbcekmnpdoeaa.Hd
open Go.Proofs.Ytgfbcekmnpdoeaa.Nv (Turn Grow lt_of_heap lt_of_cell cell_of_heap free_of_heap icells scells icells_one scells_one)

set_option maxRecDepth 100000
set_option maxHeartbeats 4000000

variable {P : Nat → Prop} {w : World} {b : Nat} {last : Int} {ins : List Int} {T : List Th} {vi vl : Value}

def keyT (t : Th) : Int × List Int := (t.x, t.bs)
/-- A list of things of its own, under way: K are its things. -/
structure NewL (P : Nat → Prop) (w wr : World) (b : Nat) (last : Int) (ins : List Int) (vi vl lv : Value) (K : List Th) : Prop where
  main : wr.heap[b]? = some (.cells #[.int .i64 last, vi, vl] 32 (0, 0))
  ins : TRow wr 0 vi ins
  ni : ∀ g, vi.ownBlock = some g → g ≠ b
  row : ThRow wr w.heap.size lv K
  all : ∀ y ∈ K, TRow wr 0 y.v y.bs
  nb : ∀ y ∈ K, ∀ g, y.v.ownBlock = some g → g ≠ b ∧ P g
  turn : Turn (fun k => k = b) w wr
theorem NewL.below {wr w' : World} {lv : Value} {K : List Th} (h : NewL P w wr b last ins vi vl lv K) (hb : Below wr.heap.size wr w') : NewL P w w' b last ins vi vl lv K :=
  ⟨(hb.block b (lt_of_heap h.main)).trans h.main, h.ins.keep (fun g hg => hb.block g (h.ins.lt g hg)), h.ni, h.row.keep (fun g hg => hb.block g (h.row.lt g hg)), fun y hy => (h.all y hy).keep (fun g hg => hb.block g ((h.all y hy).lt g hg)), h.nb, h.turn.trans (Turn.of_below hb)⟩
/-- One thing more. -/
theorem NewL.push {wr : World} {lv : Value} {K : List Th} (h : NewL P w wr b last ins vi vl lv K) (hbw : b < w.heap.size) (hl : K.length ≤ 100000) (x : Int) (a : Option Addr) (n c : Nat) (bs : List Int) (hr : TRow wr 0 (.slice a n c) bs) (hnb : ∀ g, (Value.slice a n c).ownBlock = some g → g ≠ b ∧ P g) :
    ∃ v' W', (Builtin.append_ #[30, 30] 30 #[lv, .slice (some ⟨wr.heap.size, 0, none⟩) 1 1]).run Try.prog (wr.alloc (Obj.cells #[.int .i64 x, .slice a n c] 43)) = .ok v' W' ∧ NewL P w W' b last ins vi vl v' (K ++ [⟨x, .slice a n c, bs⟩]) ∧ (∀ k, k < wr.heap.size → lv.ownBlock ≠ some k → W'.heap[k]? = wr.heap[k]?) := by
  obtain ⟨v', W', hrun, hr', hbl, hot⟩ := app_th h.row h.turn.size hl x a n c bs
  have hb := hbl w.heap.size (Nat.le_refl _)
  have hlb : lv.ownBlock ≠ some b := fun e => by have := h.row.ge b e; omega
  refine ⟨v', W', hrun, ⟨(hot b (lt_of_heap h.main) hlb).trans h.main, ?_, h.ni, hr', fun y hy => ?_, fun y hy => ?_, h.turn.trans ⟨hb.os, hb.tape, hb.output, hb.size, fun k hk hs => ?_⟩⟩, hot⟩
  · exact h.ins.keep (fun g hg => hot g (h.ins.lt g hg) (apart_rows h.ins h.row g hg))
  · rcases List.mem_append.1 hy with hy | hy
    · exact (h.all y hy).keep (fun g hg => hot g ((h.all y hy).lt g hg) (apart_rows (h.all y hy) h.row g hg))
    · simp only [List.mem_cons, List.not_mem_nil, or_false] at hy
      subst hy
      exact hr.keep (fun g hg => hot g (hr.lt g hg) (apart_rows hr h.row g hg))
  · rcases List.mem_append.1 hy with hy | hy
    · exact h.nb y hy
    · simp only [List.mem_cons, List.not_mem_nil, or_false] at hy
      subst hy
      exact hnb
  · refine hot k hk (fun e => hs (.inr ⟨h.row.ge k e, hk⟩))

theorem leaveR_any (h : RefIn w b last ins T vi vl) (hl : T.length ≤ 100000) (hli : ins.length ≤ 100000) (hlb : ∀ t ∈ T, t.bs.length ≤ 100000) (tt : Int) :
    Calls Try.prog 11 #[.pointer (some ⟨b, 0, none⟩), .int .i64 tt] w fun e w' => ∃ v' vi' vl' K, e = .returned v' ∧ K.map keyT = T.map (fun t => (t.x, strike t.bs tt)) ∧ TRow w' w.heap.size v' ((emp K).map Th.x) ∧ RefIn w' b last (strike ins tt) (non K) vi' vl' ∧ Turn (fun k => k = b) w w' ∧ (∀ q, vi'.ownBlock = some q → w.heap.size ≤ q) ∧ (∀ q, vl'.ownBlock = some q → w.heap.size ≤ q) ∧ (∀ y ∈ K, ∀ q, y.v.ownBlock = some q → w.heap.size ≤ q) := by
  have HD : Hid (RefIn w b last ins T vi vl) := h
  have hbw := lt_of_heap h.main
  have c1 := cell_of_heap h.main 1 _ rfl
  have hW := without_any vi ins tt h.ins.at hli
  obtain ⟨a, cap, rfl⟩ := h.row.slice
  clear h
  go_enter Try.func11, Try.ntmps11
  go_wp2_with fail
  refine hW.mono ?_
  rintro e w1 ⟨vi1, rfl, hr1, hb1⟩
  clear hW
  have hm1 := (hb1.block b hbw).trans HD.out.main
  have f1 := free_of_heap hm1 1
  have c1' := cell_of_heap hm1 1 _ rfl
  obtain ⟨w2, hw2⟩ : ∃ w2, w2 = w1.setCell ⟨b, 1, none⟩ vi1 := ⟨_, rfl⟩
  have hm2 : w2.heap[b]? = some (.cells #[.int .i64 last, vi1, .slice a T.length cap] 32 (0, 0)) := by rw [hw2]; exact heap_setCell_same w1 b 1 _ _ _ hm1
  have hot2 : ∀ q, q ≠ b → w2.heap[q]? = w1.heap[q]? := fun q hq => by rw [hw2]; exact heap_setCell_other w1 ⟨b, 1, none⟩ q _ hq
  have HN2 : Hid (NewL (fun q => w.heap.size ≤ q) w w2 b last (strike ins tt) vi1 (.slice a T.length cap) (.slice none 0 0) []) := by
    refine ⟨hm2, TRow.base (hr1.keep (fun g hg => hot2 g (by have := hr1.ge g hg; omega))) (Nat.zero_le _), fun g hg => by have := hr1.ge g hg; omega, World.ownsRow_nil _ _ _ _, (fun _ hy => nomatch hy), (fun _ hy => nomatch hy), ?_⟩
    rw [hw2]
    exact (Turn.of_below hb1).setCell b 1 _ (.inl rfl)
  have HVI0 : Hid (∀ q, vi1.ownBlock = some q → w.heap.size ≤ q) := hr1.ge
  obtain ⟨ia, ic, rfl⟩ := hr1.slice
  have HVI : Hid (∀ q, (Value.slice ia (strike ins tt).length ic).ownBlock = some q → w.heap.size ≤ q) := HVI0.out
  clear HVI0
  clear hm2 hot2 hr1 hb1 hm1
  go_wp2_with fail
  rw [← hw2]
  clear hw2
  go_loopw [5, 6] (fun lv iv wr => ∃ (k : Nat) (K : List Th), k ≤ T.length ∧ iv = .int .i64 k ∧ NewL (fun q => w.heap.size ≤ q) w wr b last (strike ins tt) (.slice ia (strike ins tt).length ic) (.slice a T.length cap) lv K ∧ K.map keyT = (T.take k).map (fun t => (t.x, strike t.bs tt))) (fun _ iv _ => T.length - (intOf iv).toNat)
  case atStart => exact ⟨0, [], Nat.zero_le _, rfl, HN2.out, rfl⟩
  case round =>
    obtain ⟨k, K, hk, rfl, hn, hkey⟩ := hrel
    have HN : Hid (NewL (fun q => w.heap.size ≤ q) w wr b last (strike ins tt) (.slice ia (strike ins tt).length ic) (.slice a T.length cap) u5 K) := hn
    have HK : Hid (K.map keyT = (T.take k).map (fun t => (t.x, strike t.bs tt))) := hkey
    have hkl : K.length = k := by
      have := congrArg List.length hkey
      rw [List.length_map, List.length_map, List.length_take] at this
      omega
    have HKL : Hid (K.length = k) := hkl
    clear hn hkey hkl
    have c2 := cell_of_heap HN.out.main 2 _ rfl
    have f2 := free_of_heap HN.out.main 2
    by_cases hlt : k < T.length
    · obtain ⟨g, rfl, hgl, _, hc1, hc2, e0, e1⟩ := HD.out.row.cell k hlt
      have hgb : g ≠ b := fun e => by
        subst e
        rcases HD.out.row.2 with ⟨h0, _⟩ | ⟨g', cap', cur, he, _, hh, _⟩
        · cases h0
        · cases he
          rw [HD.out.main] at hh
          injection hh with hh
          injection hh with _ hh
          exact absurd hh (by decide)
      have hgw : wr.heap[g]? = w.heap[g]? := HN.out.turn.block g hgl hgb
      have d0 := (World.cell?_of_block (a := ⟨g, k * 2, none⟩) hgw).trans e0
      have d1 := (World.cell?_of_block (a := ⟨g, k * 2 + 1, none⟩) hgw).trans e1
      have htm := List.getElem_mem hlt
      have hta := HD.out.all T[k] htm
      have htb := hlb T[k] htm
      have hnt := HD.out.nt T[k] htm
      have hta' : TRow wr 0 T[k].v T[k].bs := hta.keep (fun q hq => HN.out.turn.block q (hta.lt q hq) (hnt q hq))
      have HKS : Hid ((T.take (k + 1)).map (fun t => (t.x, strike t.bs tt)) = (T.take k).map (fun t => (t.x, strike t.bs tt)) ++ [(T[k].x, strike T[k].bs tt)]) := by
        show _ = _
        rw [List.take_succ_eq_append_getElem hlt, List.map_append]
        rfl
      obtain ⟨ta, tc, htv⟩ := hta.slice
      clear hta hnt e0 e1 htm
      generalize T[k] = t at *
      obtain ⟨tx, tv, tb⟩ := t
      dsimp only at d0 d1 htv HKS hta' htb
      subst htv
      have hW := without_any (w := wr.drew) (.slice ta tb.length tc) tb tt (TRow.at (hta'.keep (fun _ _ => rfl))) htb
      clear hta'
      go_wp2_with fail
      refine wp_region_held_drew (S := fun W => W.cell? ⟨b, 2, none⟩ = some (.slice (some ⟨g, 0, none⟩) T.length cap) ∧ W.cell? ⟨g, k * 2, none⟩ = some (.int .i64 tx) ∧ W.cell? ⟨g, k * 2 + 1, none⟩ = some (.slice ta tb.length tc)) (by kernel_rfl) (by exact ⟨c2, d0, d1⟩) (fun hHeld => ?_)
      change wpAnyH _ _ _ _ _ 23 (Array.replicate 23 false) _ _
      refine wpAnyH_take (i := 0) (oi := _) (v := _) (by simp only [List.getElem?_toArray, List.getElem?_cons_zero]; rfl) (by kernel_rfl) (by kernel_rfl) (by kernel_rfl) (by exact fun _ _ _ h => h) (Or.inl ⟨by rfl, by intro w' hSw; (try dsimp only at hSw); first | (go_simp; done) | (go_simp; with_reducible rfl)⟩) hHeld ?_
      simp only [Act.put, List.setIfInBounds_toArray, List.set_cons_zero, List.set_cons_succ]
      refine wpAnyH_take (i := 1) (oi := _) (v := _) (by simp only [List.getElem?_toArray, List.getElem?_cons_succ, List.getElem?_cons_zero]; rfl) (by kernel_rfl) (by kernel_rfl) (by kernel_rfl) (by exact fun _ _ _ h => h) (Or.inl ⟨by rfl, by intro w' hSw; (try dsimp only at hSw); first | (go_simp; done) | (go_simp; with_reducible rfl)⟩) hHeld ?_
      simp only [Act.put, List.setIfInBounds_toArray, List.set_cons_zero, List.set_cons_succ]
      refine wpAnyH_take (i := 2) (oi := _) (v := _) (by simp only [List.getElem?_toArray, List.getElem?_cons_succ, List.getElem?_cons_zero]; rfl) (by kernel_rfl) (by kernel_rfl) (by kernel_rfl) (by exact fun _ _ _ h => h) (Or.inl ⟨by rfl, by intro w' hSw; (try dsimp only at hSw); first | (go_simp; done) | (go_simp; with_reducible rfl)⟩) hHeld ?_
      simp only [Act.put, List.setIfInBounds_toArray, List.set_cons_zero, List.set_cons_succ]
      refine wpAnyH_take (i := 3) (oi := _) (v := _) (by simp only [List.getElem?_toArray, List.getElem?_cons_succ, List.getElem?_cons_zero]; rfl) (by kernel_rfl) (by kernel_rfl) (by kernel_rfl) (by exact fun _ _ _ h => h) (Or.inl ⟨by rfl, by intro w' hSw; (try dsimp only at hSw); first | (go_simp; done) | (go_simp; with_reducible rfl)⟩) hHeld ?_
      simp only [Act.put, List.setIfInBounds_toArray, List.set_cons_zero, List.set_cons_succ]
      refine wpAnyH_take (i := 4) (oi := _) (v := _) (by simp only [List.getElem?_toArray, List.getElem?_cons_succ, List.getElem?_cons_zero]; rfl) (by kernel_rfl) (by kernel_rfl) (by kernel_rfl) (by exact fun _ _ _ h => h) (Or.inl ⟨by rfl, by intro w' hSw; (try dsimp only at hSw); first | (go_simp; done) | (go_simp; with_reducible rfl)⟩) hHeld ?_
      simp only [Act.put, List.setIfInBounds_toArray, List.set_cons_zero, List.set_cons_succ]
      refine wpAnyH_take (i := 5) (oi := _) (v := _) (by simp only [List.getElem?_toArray, List.getElem?_cons_succ, List.getElem?_cons_zero]; rfl) (by kernel_rfl) (by kernel_rfl) (by kernel_rfl) (by exact fun _ _ _ h => h) (Or.inl ⟨by rfl, by intro w' hSw; (try dsimp only at hSw); first | (go_simp; done) | (go_simp; with_reducible rfl)⟩) hHeld ?_
      simp only [Act.put, List.setIfInBounds_toArray, List.set_cons_zero, List.set_cons_succ]
      refine wpAnyH_take (i := 6) (oi := _) (v := _) (by simp only [List.getElem?_toArray, List.getElem?_cons_succ, List.getElem?_cons_zero]; rfl) (by kernel_rfl) (by kernel_rfl) (by kernel_rfl) (by exact fun _ _ _ h => h) (Or.inl ⟨by rfl, by intro w' hSw; (try dsimp only at hSw); first | (go_simp; done) | (go_simp; with_reducible rfl)⟩) hHeld ?_
      simp only [Act.put, List.setIfInBounds_toArray, List.set_cons_zero, List.set_cons_succ]
      refine wpAnyH_take (i := 7) (oi := _) (v := _) (by simp only [List.getElem?_toArray, List.getElem?_cons_succ, List.getElem?_cons_zero]; rfl) (by kernel_rfl) (by kernel_rfl) (by kernel_rfl) (by exact fun _ _ _ h => h) (Or.inl ⟨by rfl, by intro w' hSw; (try dsimp only at hSw); first | (go_simp; done) | (go_simp; with_reducible rfl)⟩) hHeld ?_
      simp only [Act.put, List.setIfInBounds_toArray, List.set_cons_zero, List.set_cons_succ]
      refine wpAnyH_take (i := 8) (oi := _) (v := _) (by simp only [List.getElem?_toArray, List.getElem?_cons_succ, List.getElem?_cons_zero]; rfl) (by kernel_rfl) (by kernel_rfl) (by kernel_rfl) (by exact fun _ _ _ h => h) (Or.inl ⟨by rfl, by intro w' hSw; (try dsimp only at hSw); first | (go_simp; done) | (go_simp; with_reducible rfl)⟩) hHeld ?_
      simp only [Act.put, List.setIfInBounds_toArray, List.set_cons_zero, List.set_cons_succ]
      refine wpAnyH_take (i := 9) (oi := _) (v := _) (by simp only [List.getElem?_toArray, List.getElem?_cons_succ, List.getElem?_cons_zero]; rfl) (by kernel_rfl) (by kernel_rfl) (by kernel_rfl) (by exact fun _ _ _ h => h) (Or.inl ⟨by rfl, by intro w' hSw; (try dsimp only at hSw); first | (go_simp; done) | (go_simp; with_reducible rfl)⟩) hHeld ?_
      simp only [Act.put, List.setIfInBounds_toArray, List.set_cons_zero, List.set_cons_succ]
      refine wpAnyH_take (i := 10) (oi := _) (v := _) (by simp only [List.getElem?_toArray, List.getElem?_cons_succ, List.getElem?_cons_zero]; rfl) (by kernel_rfl) (by kernel_rfl) (by kernel_rfl) (by exact fun _ _ _ h => h) (Or.inl ⟨by rfl, by intro w' hSw; (try dsimp only at hSw); first | (go_simp; done) | (go_simp; with_reducible rfl)⟩) hHeld ?_
      simp only [Act.put, List.setIfInBounds_toArray, List.set_cons_zero, List.set_cons_succ]
      refine wpAnyH_take (i := 11) (oi := _) (v := _) (by simp only [List.getElem?_toArray, List.getElem?_cons_succ, List.getElem?_cons_zero]; rfl) (by kernel_rfl) (by kernel_rfl) (by kernel_rfl) (by exact fun _ _ _ h => h) (Or.inl ⟨by rfl, by intro w' hSw; (try dsimp only at hSw); first | (go_simp; done) | (go_simp; with_reducible rfl)⟩) hHeld ?_
      simp only [Act.put, List.setIfInBounds_toArray, List.set_cons_zero, List.set_cons_succ]
      refine wpAnyH_take (i := 12) (oi := _) (v := _) (by simp only [List.getElem?_toArray, List.getElem?_cons_succ, List.getElem?_cons_zero]; rfl) (by kernel_rfl) (by kernel_rfl) (by kernel_rfl) (by exact fun _ _ _ h => h) (Or.inl ⟨by rfl, by intro w' hSw; (try dsimp only at hSw); first | (go_simp; done) | (go_simp; with_reducible rfl)⟩) hHeld ?_
      simp only [Act.put, List.setIfInBounds_toArray, List.set_cons_zero, List.set_cons_succ]
      refine wpAnyH_take (i := 13) (oi := _) (v := _) (by simp only [List.getElem?_toArray, List.getElem?_cons_succ, List.getElem?_cons_zero]; rfl) (by kernel_rfl) (by kernel_rfl) (by kernel_rfl) (by exact fun _ _ _ h => h) (Or.inl ⟨by rfl, by intro w' hSw; (try dsimp only at hSw); first | (go_simp; done) | (go_simp; with_reducible rfl)⟩) hHeld ?_
      simp only [Act.put, List.setIfInBounds_toArray, List.set_cons_zero, List.set_cons_succ]
      refine wpAnyH_take (i := 14) (oi := _) (v := _) (by simp only [List.getElem?_toArray, List.getElem?_cons_succ, List.getElem?_cons_zero]; rfl) (by kernel_rfl) (by kernel_rfl) (by kernel_rfl) (by exact fun _ _ _ h => h) (Or.inl ⟨by rfl, by intro w' hSw; (try dsimp only at hSw); first | (go_simp; done) | (go_simp; with_reducible rfl)⟩) hHeld ?_
      simp only [Act.put, List.setIfInBounds_toArray, List.set_cons_zero, List.set_cons_succ]
      refine wpAnyH_take (i := 15) (oi := _) (v := _) (by simp only [List.getElem?_toArray, List.getElem?_cons_succ, List.getElem?_cons_zero]; rfl) (by kernel_rfl) (by kernel_rfl) (by kernel_rfl) (by exact fun _ _ _ h => h) (Or.inl ⟨by rfl, by intro w' hSw; (try dsimp only at hSw); first | (go_simp; done) | (go_simp; with_reducible rfl)⟩) hHeld ?_
      simp only [Act.put, List.setIfInBounds_toArray, List.set_cons_zero, List.set_cons_succ]
      refine wpAnyH_take (i := 16) (oi := _) (v := _) (by simp only [List.getElem?_toArray, List.getElem?_cons_succ, List.getElem?_cons_zero]; rfl) (by kernel_rfl) (by kernel_rfl) (by kernel_rfl) (by exact fun _ _ _ h => h) (Or.inl ⟨by rfl, by intro w' hSw; (try dsimp only at hSw); first | (go_simp; done) | (go_simp; with_reducible rfl)⟩) hHeld ?_
      simp only [Act.put, List.setIfInBounds_toArray, List.set_cons_zero, List.set_cons_succ]
      refine wpAnyH_take (i := 17) (oi := _) (v := _) (by simp only [List.getElem?_toArray, List.getElem?_cons_succ, List.getElem?_cons_zero]; rfl) (by kernel_rfl) (by kernel_rfl) (by kernel_rfl) (by exact fun _ _ _ h => h) (Or.inl ⟨by rfl, by intro w' hSw; (try dsimp only at hSw); first | (go_simp; done) | (go_simp; with_reducible rfl)⟩) hHeld ?_
      simp only [Act.put, List.setIfInBounds_toArray, List.set_cons_zero, List.set_cons_succ]
      refine wpAnyH_ready (rs := [18]) (by kernel_rfl) (by simp) ?_
      refine AllReadyH.cons rfl (fun K hK => ?_) AllReadyH.nil
      go_simp
      go_wp2_with fail
      refine hW.mono ?_
      rintro r w3 ⟨bv, rfl, hrb, hb3⟩
      have hb3' : Below wr.heap.size wr w3 := ⟨hb3.os, hb3.tape, hb3.output, hb3.size, hb3.block⟩
      have hn3 := HN.out.below hb3'
      have k2 := cell_of_heap hn3.main 2 _ rfl
      have k0 := (hb3'.cell (p := ⟨g, k * 2, none⟩) (lt_of_cell d0)).trans d0
      have k1 := (hb3'.cell (p := ⟨g, k * 2 + 1, none⟩) (lt_of_cell d1)).trans d1
      obtain ⟨ba, bc, rfl⟩ := hrb.slice
      obtain ⟨v5, w5, hrun, hn5, hot⟩ := hn3.push hbw (by have := HKL.out; omega) tx ba (strike tb tt).length bc (strike tb tt) (TRow.base hrb (Nat.zero_le _)) (fun q hq => by have := hrb.ge q hq; have := HN.out.turn.size; have : wr.drew.heap.size = wr.heap.size := rfl; exact ⟨by omega, by show w.heap.size ≤ q; omega⟩)
      have hal : Below w3.heap.size w3 (w3.alloc (Obj.cells #[.int .i64 tx, .slice ba (strike tb tt).length bc] 43)) := (Below.refl _ _).alloc (Nat.le_refl _) _
      have a2 := (hal.cell (p := ⟨b, 2, none⟩) (lt_of_cell k2)).trans k2
      have a0 := (hal.cell (p := ⟨g, k * 2, none⟩) (lt_of_cell k0)).trans k0
      have a1 := (hal.cell (p := ⟨g, k * 2 + 1, none⟩) (lt_of_cell k1)).trans k1
      have hg5 : w5.heap[g]? = w3.heap[g]? := hot g (lt_of_cell k0) (fun e => by have := hn3.row.ge g e; omega)
      have q2 := cell_of_heap hn5.main 2 _ rfl
      have q0 := (World.cell?_of_block (a := ⟨g, k * 2, none⟩) hg5).trans k0
      have q1 := (World.cell?_of_block (a := ⟨g, k * 2 + 1, none⟩) hg5).trans k1
      refine hK.out _ _ ⟨k2, k0, k1⟩ (fun hHeld => ?_)
      clear hK K
      refine wpAnyH_take (i := 19) (oi := _) (v := _) (by simp only [List.getElem?_toArray, List.getElem?_cons_succ, List.getElem?_cons_zero]; rfl) (by kernel_rfl) (by kernel_rfl) (by kernel_rfl) (by exact fun _ _ _ h => h) (Or.inl ⟨by rfl, by intro w' hSw; (try dsimp only at hSw); first | (go_simp; done) | (go_simp; with_reducible rfl)⟩) hHeld ?_
      simp only [Act.put, List.setIfInBounds_toArray, List.set_cons_zero, List.set_cons_succ]
      refine wpAnyH_ready (rs := [20]) (by kernel_rfl) (by simp) ?_
      refine AllReadyH.cons rfl (fun K hK => ?_) AllReadyH.nil
      go_simp
      refine hK.out _ _ ⟨a2, a0, a1⟩ (fun hHeld => ?_)
      clear hK K
      refine wpAnyH_ready (rs := [21]) (by kernel_rfl) (by simp) ?_
      refine AllReadyH.cons (o := _) (by simp only [List.getElem?_toArray, List.getElem?_cons_succ, List.getElem?_cons_zero]; rfl) (fun K hK => ?_) AllReadyH.nil
      refine wpH_append (by rfl) rfl rfl rfl hrun ?_
      refine hK.out _ _ (⟨q2, q0, q1⟩) (fun hHeld => ?_)
      clear hK K
      simp only [Act.put, List.setIfInBounds_toArray, List.set_cons_zero, List.set_cons_succ]
      refine wpAnyH_take (i := 22) (oi := _) (v := _) (by simp only [List.getElem?_toArray, List.getElem?_cons_succ, List.getElem?_cons_zero]; rfl) (by kernel_rfl) (by kernel_rfl) (by kernel_rfl) (by exact fun _ _ _ h => h) (Or.inl ⟨by rfl, by intro w' hSw; (try dsimp only at hSw); first | (go_simp; done) | (go_simp; with_reducible rfl)⟩) hHeld ?_
      simp only [Act.put, List.setIfInBounds_toArray, List.set_cons_zero, List.set_cons_succ]
      refine wpAnyH_done (by kernel_rfl) ?_ _
      clear hHeld
      have HN5 : Hid (NewL (fun q => w.heap.size ≤ q) w w5 b last (strike ins tt) (.slice ia (strike ins tt).length ic) (.slice (some ⟨g, 0, none⟩) T.length cap) v5 (K ++ [⟨tx, .slice ba (strike tb tt).length bc, strike tb tt⟩])) := hn5
      clear hn5 hot hrun hn3 hrb hb3 hb3' hal k2 k0 k1 a2 a0 a1 q2 q0 q1 hg5
      go_wp2_with fail
      go_roundw
      case rel => exact ⟨k + 1, K ++ [⟨tx, .slice ba (strike tb tt).length bc, strike tb tt⟩], by omega, by go_num, HN5.out, by rw [List.map_append, HK.out, HKS.out]; rfl⟩
      case measure => simp [intOf]; omega
    · obtain rfl : k = T.length := by omega
      rw [List.take_length] at HK
      obtain ⟨w4, hw4⟩ : ∃ w4, w4 = wr.setCell ⟨b, 2, none⟩ u5 := ⟨_, rfl⟩
      have hm4 : w4.heap[b]? = some (.cells #[.int .i64 last, .slice ia (strike ins tt).length ic, u5] 32 (0, 0)) := by rw [hw4]; exact heap_setCell_same wr b 2 _ _ _ HN.out.main
      have hot4 : ∀ q, q ≠ b → w4.heap[q]? = wr.heap[q]? := fun q hq => by rw [hw4]; exact heap_setCell_other wr ⟨b, 2, none⟩ q _ hq
      have hR : RefIn w4 b last (strike ins tt) K (.slice ia (strike ins tt).length ic) u5 :=
        ⟨hm4, HN.out.ins.keep (fun q hq => hot4 q (HN.out.ni q hq)), ThRow.base (HN.out.row.keep (fun q hq => hot4 q (by have := HN.out.row.ge q hq; omega))) (Nat.zero_le _),
          fun y hy => (HN.out.all y hy).keep (fun q hq => hot4 q (HN.out.nb y hy q hq).1), HN.out.ni, fun y hy q hq => (HN.out.nb y hy q hq).1⟩
      have HT4 : Hid (Turn (fun k => k = b) w w4) := by show Turn _ _ _; rw [hw4]; exact HN.out.turn.setCell b 2 _ (.inl rfl)
      have hF := free_any hR (by have := HKL.out; omega)
      obtain ⟨la, lc, hlv⟩ := HN.out.row.slice
      subst hlv
      clear hm4 hot4 hR
      go_wp2_with fail
      rw [← hw4]
      clear hw4
      refine hF.mono ?_
      rintro e w5 ⟨v5, vl5, rfl, hr5, hR5, ht5, hge5⟩
      clear hF
      have HF : Hid (TRow w5 w.heap.size v5 ((emp K).map Th.x) ∧ RefIn w5 b last (strike ins tt) (non K) (.slice ia (strike ins tt).length ic) vl5 ∧ Turn (fun k => k = b) w w5 ∧ (∀ q, vl5.ownBlock = some q → w.heap.size ≤ q)) :=
        ⟨TRow.base hr5 HT4.out.size, hR5, HT4.out.trans (ht5.mono (fun q e => .inl e)), fun q hq => by have := hge5 q hq; have := HT4.out.size; omega⟩
      obtain ⟨ra, rc, hrv⟩ := hr5.slice
      rw [List.length_map] at hrv
      subst hrv
      clear hr5 hR5 ht5 hge5
      go_wp2
      go_ret
      exact ⟨_, _, _, K, rfl, HK.out, HF.out.1, HF.out.2.1, HF.out.2.2.1, HVI.out, HF.out.2.2.2, fun y hy q hq => (HN.out.nb y hy q hq).2⟩

end Go.Proofs.Ytgfbcekmnpdoeaa.Hdi
