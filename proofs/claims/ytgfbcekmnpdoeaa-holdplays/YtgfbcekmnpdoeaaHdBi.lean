/-
  Holds of int in memory; somebody enters. No condition.
-/
import Derived.Test.YtgfbcekmnpdoeaaHdAi
import Derived.Carry
import Derived.Laws.Cover3
namespace Go.Proofs.Ytgfbcekmnpdoeaa.Hdi
open Go.ChangeShapes Go.WideShapes Go.ChangeAt Go.RowKit Go.Proofs.Fa Go.Proofs.Ytgfbcekmnpdoeaa.Hd
open Go.Proofs.Ytgfbcekmnpdoeaa.Nv (Turn Grow lt_of_heap lt_of_cell cell_of_heap free_of_heap icells scells icells_one scells_one)

theorem wpH_update {P : Program} {o : Oper} {a : Act} {w w' : World} {tm : Nat → Option Bool} {K : Act → World → Prop} {Q : Exit → Act → World → Prop} {m x y : Operand} {t : TypeId} {v v2 v3 : Value} (hwant : Region.wanted o tm = true)
    (ho : o.op = .mapUpdate t m x y) (hm : a.eval m = v) (hx : a.eval x = v2) (hy : a.eval y = v3) (hr : (Instr.mapUpdate t v v2 v3).run P w = .ok () w') (hK : K (a.put o.dst undef) w') :
    if Region.wanted o tm = true then Oper.wp P o a w K Q else K (a.put o.dst undef) w := by
  rw [if_pos hwant]
  unfold Oper.wp
  simp [execOp, ho, hm, hx, hy, hr, Result.andThen]
  exact hK

theorem eql_map (w : World) (r : Option Nat) : (binOp .eql 24 (.map r) (.map none)).run Try.prog w = .ok (.bool r.isNone) w := by
  simp only [binOp]
  simp [run_equal_map_nil w _ _ _ r Try.underlying24]
theorem grow_lt {S : Nat → Prop} {w w' : World} (hl : ∀ k, S k → k < w.heap.size) (ht : w.heap.size ≤ w'.heap.size) (k : Nat) (h : Grow S w w' k) : k < w'.heap.size := by
  rcases h with h | ⟨_, h⟩
  · exact Nat.lt_of_lt_of_le (hl k h) ht
  · exact h

/-- Holds in w, at block b, in blocks of S. -/
structure HoldIn (w : World) (S : Nat → Prop) (b : Nat) (s : HS Int) (mv hv : Value) : Prop where
  main : w.heap[b]? = some (.cells #[.int .i64 s.last, mv, .int .i64 s.eld, hv] 27 (0, 0))
  mp : MapIs w mv s.m s.last.toNat
  row : DRow w hv s.l
  ok : Ok s
  sb : S b
  sm : ∀ g, blk mv = some g → S g
  sr : ∀ g, hv.ownBlock = some g → S g
  lt : ∀ k, S k → k < w.heap.size

variable {w : World} {S : Nat → Prop} {b : Nat} {s : HS Int} {mv hv : Value}

theorem HoldIn.turn {w' : World} {S' : Nat → Prop} (h : HoldIn w S b s mv hv) (ht : Turn S' w w') (hs : ∀ k, S k → ¬ S' k) : HoldIn w' S b s mv hv :=
  ⟨(ht.block b (lt_of_heap h.main) (hs b h.sb)).trans h.main, h.mp.keep (fun g hg => ht.block g (h.mp.lt g hg) (hs g (h.sm g hg))), ORow.turn h.row ht (fun g hg => hs g (h.sr g hg)), h.ok, h.sb, h.sm, h.sr, fun k hk => Nat.lt_of_lt_of_le (h.lt k hk) ht.size⟩
theorem HoldIn.below {w' : World} (h : HoldIn w S b s mv hv) (hb : Below w.heap.size w w') : HoldIn w' S b s mv hv :=
  h.turn (S' := fun _ => False) (Turn.of_below hb) (fun _ _ h => h)
theorem HoldIn.grow {w' : World} {S' : Nat → Prop} (h : HoldIn w' S b s mv hv) (hs : ∀ k, S k → S' k) (hl : ∀ k, S' k → k < w'.heap.size) : HoldIn w' S' b s mv hv :=
  ⟨h.main, h.mp, h.row, h.ok, hs _ h.sb, fun g e => hs _ (h.sm g e), fun g e => hs _ (h.sr g e), hl⟩
theorem MapIs.mono {w : World} {mv : Value} {m : List Int} {n n' : Nat} (h : MapIs w mv m n) (hn : n ≤ n') : MapIs w mv m n' := by
  rcases h with h | ⟨mb, D, h, ho, r⟩
  · exact .inl h
  · exact .inr ⟨mb, D, h, ho.mono hn, r⟩
/-- The map, the drops and the holds lie in three blocks. -/
theorem HoldIn.ne_m (h : HoldIn w S b s mv hv) (g : Nat) (hg : blk mv = some g) : g ≠ b := by
  intro e
  obtain ⟨es, c, hh⟩ := h.mp.map g hg
  rw [e, h.main] at hh
  cases hh
theorem HoldIn.ne_r (h : HoldIn w S b s mv hv) (g : Nat) (hg : hv.ownBlock = some g) : g ≠ b := by
  intro e
  obtain ⟨c, hh⟩ := ORow.type h.row g hg
  rw [e, h.main] at hh
  injection hh with hh
  injection hh with _ hh
  exact absurd hh (by decide)
theorem HoldIn.ne_mr (h : HoldIn w S b s mv hv) (g : Nat) (hg : blk mv = some g) (hr : hv.ownBlock = some g) : False := by
  obtain ⟨es, c, hh⟩ := h.mp.map g hg
  obtain ⟨c', hh'⟩ := ORow.type h.row g hr
  rw [hh] at hh'
  cases hh'

set_option maxRecDepth 100000
set_option maxHeartbeats 2000000

theorem enter_any (h : HoldIn w S b s mv hv) (hl : s.last ≤ 999) :
    Calls Try.prog 8 #[.pointer (some ⟨b, 0, none⟩)] w fun e w' => e = .returned (.int .i64 (s.last + 1)) ∧ (∃ mv', HoldIn w' (Grow S w w') b (enterF s) mv' hv) ∧ Turn S w w' := by
  have HD : Hid (HoldIn w S b s mv hv) := h
  have h0 := h.ok.last0
  have hnin : s.last + 1 ∉ s.m := fun hm => by have := (h.ok.inn _ hm).2.2; omega
  have hw : wrap64 (s.last + 1) = s.last + 1 := by have := h.ok.lastB; unfold wrap64; omega
  have heq : ∀ (w : World) (r : Option Nat), (binOp .eql 24 (.map r) (.map none)).run Try.prog w = .ok (.bool r.isNone) w := eql_map
  have hmm := @run_makeMap Try.prog
  have c0 := cell_of_heap h.main 0 _ rfl
  have c1 := cell_of_heap h.main 1 _ rfl
  have f0 := free_of_heap h.main 0
  have f1 := free_of_heap h.main 1
  have hbl := lt_of_heap h.main
  have HFIN : ∀ (mb : Nat) (W W3 : World), W.heap[b]? = some (.cells #[.int .i64 (s.last + 1), .map (some mb), .int .i64 s.eld, hv] 27 (0, 0)) → DRow W hv s.l → MapIs W3 (.map (some mb)) (s.m ++ [s.last + 1]) (s.last.toNat + 1) → W.grownBy W3 (some mb) → mb < W.heap.size → mb ≠ b → (∀ g, hv.ownBlock = some g → mb ≠ g) → Turn S w W → (S mb ∨ w.heap.size ≤ mb) →
      (∃ mv', HoldIn W3 (Grow S w W3) b (enterF s) mv' hv) ∧ Turn S w W3 := by
    intro mb W W3 hm hr hmp hg hlt hne hnr ht hmb
    have hsz : w.heap.size ≤ W3.heap.size := Nat.le_trans ht.size hg.size
    have ht3 : Turn S w W3 := by
      refine ht.trans (Turn.grown hg (fun g e => ?_))
      cases e
      rcases hmb with hmb | hmb
      · exact .inl hmb
      · exact .inr ⟨hmb, hlt⟩
    have hlt3 : mb < W3.heap.size := Nat.lt_of_lt_of_le hlt hg.size
    refine ⟨⟨.map (some mb), (hg.block b (lt_of_heap hm) (fun e => hne (by injection e with e; exact e.symm))).trans hm, ?_, ORow.keep hr (fun g hgb => hg.block g (ORow.lt hr g hgb) (fun e => hnr g hgb (by injection e with e; exact e.symm))), h.ok.enter hl, .inl h.sb, fun g e => ?_, fun g e => .inl (h.sr g e), grow_lt h.lt hsz⟩, ht3⟩
    · exact MapIs.mono hmp (by show s.last.toNat + 1 ≤ (s.last + 1).toNat; omega)
    · cases e
      rcases hmb with hmb | hmb
      · exact .inl hmb
      · exact .inr ⟨hmb, hlt3⟩
  rcases h.mp with ⟨rfl, hm0⟩ | ⟨mb, D, rfl, ho, hh, hs⟩
  · obtain ⟨W2, hW2⟩ : ∃ W2, W2 = ((w.setCell ⟨b, 1, none⟩ (.map (some w.heap.size))).setCell ⟨b, 0, none⟩ (.int .i64 (s.last + 1))).alloc (.map #[] 0) := ⟨_, rfl⟩
    have hm2 : W2.heap[b]? = some (.cells #[.int .i64 (s.last + 1), .map (some w.heap.size), .int .i64 s.eld, hv] 27 (0, 0)) := by
      rw [hW2]; exact (Below.heap_alloc _ _ _ (by simpa using hbl)).trans (heap_setCell_same _ b 0 _ _ _ (heap_setCell_same _ b 1 _ _ _ h.main))
    have ho2 : ∀ k, k ≠ b → k < w.heap.size → W2.heap[k]? = w.heap[k]? := fun k hk hkl => by
      rw [hW2]; exact (Below.heap_alloc _ _ _ (by simpa using hkl)).trans ((heap_setCell_other _ ⟨b, 0, none⟩ k _ hk).trans (heap_setCell_other _ ⟨b, 1, none⟩ k _ hk))
    have hn2 : W2.heap[w.heap.size]? = some (.map #[] 0) := by
      rw [hW2]
      have := heap_alloc_new ((w.setCell ⟨b, 1, none⟩ (.map (some w.heap.size))).setCell ⟨b, 0, none⟩ (.int .i64 (s.last + 1))) (.map #[] 0)
      simpa using this
    have hs2 : W2.heap.size = w.heap.size + 1 := by rw [hW2]; simp
    have hmp2 : MapIs W2.drew (.map (some w.heap.size)) s.m s.last.toNat := by
      rw [hm0]
      exact MapIs.mono ((MapIs.made w).keep (fun g hg => by cases hg; exact hn2.trans (heap_alloc_new w _).symm)) (Nat.zero_le _)
    have ht2 : Turn S w W2 := by
      rw [hW2]
      exact (((Turn.refl S w).setCell b 1 _ (.inl h.sb)).setCell b 0 _ (.inl h.sb)).alloc _
    obtain ⟨W3, hput, hmp3, hg3, hs3⟩ := hmp2.put (by have := h.ok.lastB; unfold maxLen; omega) (s.last + 1) (by have := h.ok.lastB; omega) hnin
    have hm3 := (hg3.block b (lt_of_heap (w := W2.drew) hm2) (fun e => by injection e; omega)).trans hm2
    have hr2 : DRow W2.drew hv s.l := ORow.keep h.row (fun g hgb => ho2 g (h.ne_r g hgb) (ORow.lt h.row g hgb))
    have HF := HFIN w.heap.size W2.drew W3 hm2 hr2 hmp3 hg3 (by show _ < W2.heap.size; omega) (by omega) (fun g hgb => by have := ORow.lt h.row g hgb; omega) ht2.drew (.inr (Nat.le_refl _))
    have d0 := cell_of_heap hm2 0 _ rfl
    have d1 := cell_of_heap hm2 1 _ rfl
    have e0 := cell_of_heap hm3 0 _ rfl
    have e1 := cell_of_heap hm3 1 _ rfl
    clear h HD hm2 ho2 hn2 hs2 hmp2 ht2 hmp3 hg3 hs3 hm3 hr2 HFIN
    go_enter Try.func8, Try.ntmps8
    go_wp2_with fail
    rw [← hW2]
    refine wp_region_held_drew (S := fun W => W.cell? ⟨b, 1, none⟩ = some (.map (some w.heap.size)) ∧ W.cell? ⟨b, 0, none⟩ = some (.int .i64 (s.last + 1))) (by kernel_rfl) (by exact ⟨d1, d0⟩) (fun hHeld => ?_)
    change wpAnyH _ _ _ _ _ 10 (Array.replicate 10 false) _ _
    refine wpAnyH_take (i := 0) (oi := _) (v := _) (by simp only [List.getElem?_toArray, List.getElem?_cons_zero]; rfl) (by kernel_rfl) (by kernel_rfl) (by kernel_rfl) (by exact fun _ _ _ h => h) (Or.inl ⟨by rfl, by intro w' hSw; (try dsimp only at hSw); first | (go_simp; done) | (go_simp; with_reducible rfl)⟩) hHeld ?_
    simp only [Act.put, List.setIfInBounds_toArray, List.set_cons_zero, List.set_cons_succ]
    refine wpAnyH_take (i := 1) (oi := _) (v := _) (by simp only [List.getElem?_toArray, List.getElem?_cons_succ, List.getElem?_cons_zero]; rfl) (by kernel_rfl) (by kernel_rfl) (by kernel_rfl) (by exact fun _ _ _ h => h) (Or.inl ⟨by rfl, by intro w' hSw; (try dsimp only at hSw); first | (go_simp; done) | (go_simp; with_reducible rfl)⟩) hHeld ?_
    simp only [Act.put, List.setIfInBounds_toArray, List.set_cons_zero, List.set_cons_succ]
    refine wpAnyH_take (i := 2) (oi := _) (v := _) (by simp only [List.getElem?_toArray, List.getElem?_cons_succ, List.getElem?_cons_zero]; rfl) (by kernel_rfl) (by kernel_rfl) (by kernel_rfl) (by exact fun _ _ _ h => h) (Or.inl ⟨by rfl, by intro w' hSw; (try dsimp only at hSw); first | (go_simp; done) | (go_simp; with_reducible rfl)⟩) hHeld ?_
    simp only [Act.put, List.setIfInBounds_toArray, List.set_cons_zero, List.set_cons_succ]
    refine wpAnyH_take (i := 3) (oi := _) (v := _) (by simp only [List.getElem?_toArray, List.getElem?_cons_succ, List.getElem?_cons_zero]; rfl) (by kernel_rfl) (by kernel_rfl) (by kernel_rfl) (by exact fun _ _ _ h => h) (Or.inl ⟨by rfl, by intro w' hSw; (try dsimp only at hSw); first | (go_simp; done) | (go_simp; with_reducible rfl)⟩) hHeld ?_
    simp only [Act.put, List.setIfInBounds_toArray, List.set_cons_zero, List.set_cons_succ]
    refine wpAnyH_take (i := 4) (oi := _) (v := _) (by simp only [List.getElem?_toArray, List.getElem?_cons_succ, List.getElem?_cons_zero]; rfl) (by kernel_rfl) (by kernel_rfl) (by kernel_rfl) (by exact fun _ _ _ h => h) (Or.inl ⟨by rfl, by intro w' hSw; (try dsimp only at hSw); first | (go_simp; done) | (go_simp; with_reducible rfl)⟩) hHeld ?_
    simp only [Act.put, List.setIfInBounds_toArray, List.set_cons_zero, List.set_cons_succ]
    refine wpAnyH_take (i := 5) (oi := _) (v := _) (by simp only [List.getElem?_toArray, List.getElem?_cons_succ, List.getElem?_cons_zero]; rfl) (by kernel_rfl) (by kernel_rfl) (by kernel_rfl) (by exact fun _ _ _ h => h) (Or.inl ⟨by rfl, by intro w' hSw; (try dsimp only at hSw); first | (go_simp; done) | (go_simp; with_reducible rfl)⟩) hHeld ?_
    simp only [Act.put, List.setIfInBounds_toArray, List.set_cons_zero, List.set_cons_succ]
    refine wpAnyH_take (i := 6) (oi := _) (v := _) (by simp only [List.getElem?_toArray, List.getElem?_cons_succ, List.getElem?_cons_zero]; rfl) (by kernel_rfl) (by kernel_rfl) (by kernel_rfl) (by exact fun _ _ _ h => h) (Or.inl ⟨by rfl, by intro w' hSw; (try dsimp only at hSw); first | (go_simp; done) | (go_simp; with_reducible rfl)⟩) hHeld ?_
    simp only [Act.put, List.setIfInBounds_toArray, List.set_cons_zero, List.set_cons_succ]
    refine wpAnyH_take (i := 7) (oi := _) (v := _) (by simp only [List.getElem?_toArray, List.getElem?_cons_succ, List.getElem?_cons_zero]; rfl) (by kernel_rfl) (by kernel_rfl) (by kernel_rfl) (by exact fun _ _ _ h => h) (Or.inl ⟨by rfl, by intro w' hSw; (try dsimp only at hSw); first | (go_simp; done) | (go_simp; with_reducible rfl)⟩) hHeld ?_
    simp only [Act.put, List.setIfInBounds_toArray, List.set_cons_zero, List.set_cons_succ]
    refine wpAnyH_take (i := 8) (oi := _) (v := _) (by simp only [List.getElem?_toArray, List.getElem?_cons_succ, List.getElem?_cons_zero]; rfl) (by kernel_rfl) (by kernel_rfl) (by kernel_rfl) (by exact fun _ _ _ h => h) (Or.inl ⟨by rfl, by intro w' hSw; (try dsimp only at hSw); first | (go_simp; done) | (go_simp; with_reducible rfl)⟩) hHeld ?_
    simp only [Act.put, List.setIfInBounds_toArray, List.set_cons_zero, List.set_cons_succ]
    refine wpAnyH_ready (rs := [9]) (by kernel_rfl) (by simp) ?_
    refine AllReadyH.cons (o := _) (by simp only [List.getElem?_toArray, List.getElem?_cons_succ, List.getElem?_cons_zero]; rfl) (fun K hK => ?_) AllReadyH.nil
    refine wpH_update (by rfl) rfl rfl rfl rfl hput ?_
    refine hK.out _ _ (⟨e1, e0⟩) (fun hHeld => ?_)
    clear hK K
    simp only [Act.put]
    refine wpAnyH_done (by kernel_rfl) ?_ _
    clear hHeld
    go_wp2
    go_ret
    exact ⟨rfl, HF⟩
  · have hm0 := h.main
    obtain ⟨W2, hW2⟩ : ∃ W2, W2 = w.setCell ⟨b, 0, none⟩ (.int .i64 (s.last + 1)) := ⟨_, rfl⟩
    have hm2 : W2.heap[b]? = some (.cells #[.int .i64 (s.last + 1), .map (some mb), .int .i64 s.eld, hv] 27 (0, 0)) := by
      rw [hW2]; exact heap_setCell_same _ b 0 _ _ _ h.main
    have ho2 : ∀ k, k ≠ b → W2.heap[k]? = w.heap[k]? := fun k hk => by
      rw [hW2]; exact heap_setCell_other _ ⟨b, 0, none⟩ k _ hk
    have hs2 : W2.heap.size = w.heap.size := by rw [hW2]; simp
    have hmb := h.ne_m mb rfl
    have hmp2 : MapIs W2.drew (.map (some mb)) s.m s.last.toNat := h.mp.keep (fun g hg => by cases hg; exact ho2 _ hmb)
    have ht2 : Turn S w W2 := by
      rw [hW2]
      exact (Turn.refl S w).setCell b 0 _ (.inl h.sb)
    obtain ⟨W3, hput, hmp3, hg3, hs3⟩ := hmp2.put (by have := h.ok.lastB; unfold maxLen; omega) (s.last + 1) (by have := h.ok.lastB; omega) hnin
    have hm3 := (hg3.block b (lt_of_heap (w := W2.drew) hm2) (fun e => by injection e with e; exact hmb e.symm)).trans hm2
    have hr2 : DRow W2.drew hv s.l := ORow.keep h.row (fun g hgb => ho2 g (h.ne_r g hgb))
    have HF := HFIN mb W2.drew W3 hm2 hr2 hmp3 hg3 (by show _ < W2.heap.size; have := h.mp.lt mb rfl; omega) hmb (fun g hgb e => h.ne_mr mb rfl (e ▸ hgb)) ht2.drew (.inl (h.sm mb rfl))
    have d0 := cell_of_heap hm2 0 _ rfl
    have d1 := cell_of_heap hm2 1 _ rfl
    have e0 := cell_of_heap hm3 0 _ rfl
    have e1 := cell_of_heap hm3 1 _ rfl
    clear h HD hm0 hm2 ho2 hs2 hmp2 ht2 hmp3 hg3 hs3 hm3 hr2 HFIN
    go_enter Try.func8, Try.ntmps8
    go_wp2_with fail
    rw [← hW2]
    refine wp_region_held_drew (S := fun W => W.cell? ⟨b, 1, none⟩ = some (.map (some mb)) ∧ W.cell? ⟨b, 0, none⟩ = some (.int .i64 (s.last + 1))) (by kernel_rfl) (by exact ⟨d1, d0⟩) (fun hHeld => ?_)
    change wpAnyH _ _ _ _ _ 10 (Array.replicate 10 false) _ _
    refine wpAnyH_take (i := 0) (oi := _) (v := _) (by simp only [List.getElem?_toArray, List.getElem?_cons_zero]; rfl) (by kernel_rfl) (by kernel_rfl) (by kernel_rfl) (by exact fun _ _ _ h => h) (Or.inl ⟨by rfl, by intro w' hSw; (try dsimp only at hSw); first | (go_simp; done) | (go_simp; with_reducible rfl)⟩) hHeld ?_
    simp only [Act.put, List.setIfInBounds_toArray, List.set_cons_zero, List.set_cons_succ]
    refine wpAnyH_take (i := 1) (oi := _) (v := _) (by simp only [List.getElem?_toArray, List.getElem?_cons_succ, List.getElem?_cons_zero]; rfl) (by kernel_rfl) (by kernel_rfl) (by kernel_rfl) (by exact fun _ _ _ h => h) (Or.inl ⟨by rfl, by intro w' hSw; (try dsimp only at hSw); first | (go_simp; done) | (go_simp; with_reducible rfl)⟩) hHeld ?_
    simp only [Act.put, List.setIfInBounds_toArray, List.set_cons_zero, List.set_cons_succ]
    refine wpAnyH_take (i := 2) (oi := _) (v := _) (by simp only [List.getElem?_toArray, List.getElem?_cons_succ, List.getElem?_cons_zero]; rfl) (by kernel_rfl) (by kernel_rfl) (by kernel_rfl) (by exact fun _ _ _ h => h) (Or.inl ⟨by rfl, by intro w' hSw; (try dsimp only at hSw); first | (go_simp; done) | (go_simp; with_reducible rfl)⟩) hHeld ?_
    simp only [Act.put, List.setIfInBounds_toArray, List.set_cons_zero, List.set_cons_succ]
    refine wpAnyH_take (i := 3) (oi := _) (v := _) (by simp only [List.getElem?_toArray, List.getElem?_cons_succ, List.getElem?_cons_zero]; rfl) (by kernel_rfl) (by kernel_rfl) (by kernel_rfl) (by exact fun _ _ _ h => h) (Or.inl ⟨by rfl, by intro w' hSw; (try dsimp only at hSw); first | (go_simp; done) | (go_simp; with_reducible rfl)⟩) hHeld ?_
    simp only [Act.put, List.setIfInBounds_toArray, List.set_cons_zero, List.set_cons_succ]
    refine wpAnyH_take (i := 4) (oi := _) (v := _) (by simp only [List.getElem?_toArray, List.getElem?_cons_succ, List.getElem?_cons_zero]; rfl) (by kernel_rfl) (by kernel_rfl) (by kernel_rfl) (by exact fun _ _ _ h => h) (Or.inl ⟨by rfl, by intro w' hSw; (try dsimp only at hSw); first | (go_simp; done) | (go_simp; with_reducible rfl)⟩) hHeld ?_
    simp only [Act.put, List.setIfInBounds_toArray, List.set_cons_zero, List.set_cons_succ]
    refine wpAnyH_take (i := 5) (oi := _) (v := _) (by simp only [List.getElem?_toArray, List.getElem?_cons_succ, List.getElem?_cons_zero]; rfl) (by kernel_rfl) (by kernel_rfl) (by kernel_rfl) (by exact fun _ _ _ h => h) (Or.inl ⟨by rfl, by intro w' hSw; (try dsimp only at hSw); first | (go_simp; done) | (go_simp; with_reducible rfl)⟩) hHeld ?_
    simp only [Act.put, List.setIfInBounds_toArray, List.set_cons_zero, List.set_cons_succ]
    refine wpAnyH_take (i := 6) (oi := _) (v := _) (by simp only [List.getElem?_toArray, List.getElem?_cons_succ, List.getElem?_cons_zero]; rfl) (by kernel_rfl) (by kernel_rfl) (by kernel_rfl) (by exact fun _ _ _ h => h) (Or.inl ⟨by rfl, by intro w' hSw; (try dsimp only at hSw); first | (go_simp; done) | (go_simp; with_reducible rfl)⟩) hHeld ?_
    simp only [Act.put, List.setIfInBounds_toArray, List.set_cons_zero, List.set_cons_succ]
    refine wpAnyH_take (i := 7) (oi := _) (v := _) (by simp only [List.getElem?_toArray, List.getElem?_cons_succ, List.getElem?_cons_zero]; rfl) (by kernel_rfl) (by kernel_rfl) (by kernel_rfl) (by exact fun _ _ _ h => h) (Or.inl ⟨by rfl, by intro w' hSw; (try dsimp only at hSw); first | (go_simp; done) | (go_simp; with_reducible rfl)⟩) hHeld ?_
    simp only [Act.put, List.setIfInBounds_toArray, List.set_cons_zero, List.set_cons_succ]
    refine wpAnyH_take (i := 8) (oi := _) (v := _) (by simp only [List.getElem?_toArray, List.getElem?_cons_succ, List.getElem?_cons_zero]; rfl) (by kernel_rfl) (by kernel_rfl) (by kernel_rfl) (by exact fun _ _ _ h => h) (Or.inl ⟨by rfl, by intro w' hSw; (try dsimp only at hSw); first | (go_simp; done) | (go_simp; with_reducible rfl)⟩) hHeld ?_
    simp only [Act.put, List.setIfInBounds_toArray, List.set_cons_zero, List.set_cons_succ]
    refine wpAnyH_ready (rs := [9]) (by kernel_rfl) (by simp) ?_
    refine AllReadyH.cons (o := _) (by simp only [List.getElem?_toArray, List.getElem?_cons_succ, List.getElem?_cons_zero]; rfl) (fun K hK => ?_) AllReadyH.nil
    refine wpH_update (by rfl) rfl rfl rfl rfl hput ?_
    refine hK.out _ _ (⟨e1, e0⟩) (fun hHeld => ?_)
    clear hK K
    simp only [Act.put]
    refine wpAnyH_done (by kernel_rfl) ?_ _
    clear hHeld
    go_wp2
    go_ret
    exact ⟨rfl, HF⟩

end Go.Proofs.Ytgfbcekmnpdoeaa.Hdi
