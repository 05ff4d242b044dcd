/-
  Things are dropped into the document's holds. No condition.
-/
import Derived.Test.YtgfbcekmnpdoeaaHdLv
namespace Go.Proofs.Ytgfbcekmnpdoeaa.Hdi
open Go.ChangeShapes Go.WideShapes Go.ChangeAt Go.RowKit Go.Proofs.Fa Go.Proofs.Ytgfbcekmnpdoeaa.Hd
open Go.Proofs.Ytgfbcekmnpdoeaa.Nv (Turn Grow lt_of_heap lt_of_cell cell_of_heap free_of_heap icells scells icells_one scells_one)

set_option maxRecDepth 100000
set_option maxHeartbeats 4000000

variable {w : World} {b : Nat} {last : Int} {ins : List Int} {T : List Th} {vi vl : Value}

theorem thc_one (T : List Th) (h : ∀ t ∈ T, t.v.oneCell' = true) : ∀ u ∈ thc T, u.oneCell' = true := by
  induction T with
  | nil => intro u hu; cases hu
  | cons t r ih =>
    intro u hu
    simp only [thc, List.mem_cons] at hu
    rcases hu with rfl | rfl | hu
    · rfl
    · exact h t (List.mem_cons_self ..)
    · exact ih (fun y hy => h y (List.mem_cons_of_mem _ hy)) u hu
/-- All things, behind an empty literal. -/
theorem copy_th (W : World) (v : Value) (T : List Th) (h : ThRow W 0 v T) (hl : T.length ≤ 100000) (ho : ∀ t ∈ T, t.v.oneCell' = true) :
    ∃ v' W', (Builtin.append_ #[30, 30] 30 #[.slice (some ⟨W.heap.size, 0, none⟩) 0 0, v]).run Try.prog (W.alloc (Obj.cells #[] 43)) = .ok v' W' ∧ ThRow W' W.heap.size v' T ∧ Below W.heap.size W W' := by
  obtain ⟨i0, hi, hz0, hz1, hz2⟩ := info_parts info_th
  have hb : Below W.heap.size W (W.alloc (Obj.cells #[] 43)) := (Below.refl _ _).alloc (Nat.le_refl _) _
  have hlit : (W.alloc (Obj.cells #[] 43)).ownsRow W.heap.size 43 2 (.slice (some ⟨W.heap.size, 0, none⟩) 0 0) 0 [] := World.ownsRow_lit (e := 43) (size := 2) W #[] 0 (Nat.le_refl W.heap.size) (by decide) rfl
  rcases h.2 with ⟨rfl, h0⟩ | ⟨g, cap, cur, rfl, hbb, hg, hnc, hcm, _⟩
  · obtain rfl : T = [] := List.eq_nil_of_length_eq_zero h0
    refine ⟨.slice (some ⟨W.heap.size, 0, none⟩) 0 0, W.alloc (Obj.cells #[] 43), ?_, hlit, hb⟩
    simp [Builtin.append_, go_sem, Builtin.lenOf, Builtin.firstCells]
  · have hsrc := World.ownsRow.cells (g := g) h rfl
    obtain ⟨v', W', hr, ho', hg', _⟩ := run_append_near (P := Try.prog) (w := W.alloc (Obj.cells #[] 43)) W.heap.size 30 30 43 i0 _ 2 32 Try.underlying30 hi hz0 hz1 hz2 rfl (by decide) _ 0 [] hlit ⟨g, 0, none⟩ T.length cap (thc T) (thc_length T) (fun j u hu => (World.cell?_of_block (Below.heap_alloc _ _ _ (by rw [Addr.add_lit]; exact lt_of_heap hg))).trans (hsrc j u hu)) (thc_one T ho) (by unfold maxLen; omega) (by omega) (by rw [World.size_alloc]; omega)
    refine ⟨v', W', hr, ?_, hb.grown hg' (by rw [World.size_alloc]; omega) (fun k e => by cases e; exact Nat.le_refl _)⟩
    unfold ThRow
    rw [Nat.zero_add, List.nil_append] at ho'
    exact ho'
/-- All numbers, behind an empty literal. -/
theorem copy_ints (W : World) (v : Value) (l : List Int) (h : TAt W v l) (hl : l.length ≤ 100000) :
    ∃ v' W', (Builtin.append_ #[29, 29] 29 #[.slice (some ⟨W.heap.size, 0, none⟩) 0 0, v]).run Try.prog (W.alloc (Obj.cells #[] 3)) = .ok v' W' ∧ TRow W' W.heap.size v' l ∧ Below W.heap.size W W' := by
  have hb : Below W.heap.size W (W.alloc (Obj.cells #[] 3)) := (Below.refl _ _).alloc (Nat.le_refl _) _
  have hlit : TRow (W.alloc (Obj.cells #[] 3)) W.heap.size (.slice (some ⟨W.heap.size, 0, none⟩) 0 0) [] := World.ownsRow_lit W #[] 0 (Nat.le_refl W.heap.size) (by decide) rfl
  obtain ⟨v', W', hr, h', hg, _⟩ := app_all hlit (by rw [World.size_alloc]; omega) (by decide) (h.bel hb (Nat.le_refl _)) hl 29
  exact ⟨v', W', hr, h', hb.grown hg (by rw [World.size_alloc]; omega) (fun q e => by cases e; exact Nat.le_refl _)⟩

theorem dropR_any (h : RefIn w b last ins T vi vl) (v : Value) (xs : List Int) (hx : TAt w v xs) (hv : ∀ g, v.ownBlock = some g → g ≠ b) (hl : T.length + xs.length ≤ 100000) (hli : ins.length ≤ 100000) :
    Calls Try.prog 13 #[.pointer (some ⟨b, 0, none⟩), v] w fun e w' => ∃ v' vl' K, e = .returned v' ∧ K.map keyT = T.map keyT ++ xs.map (fun x => (x, ins)) ∧ TRow w' w.heap.size v' ((emp K).map Th.x) ∧ RefIn w' b last ins (non K) vi vl' ∧ Turn (fun k => k = b) w w' ∧ (∀ q, vl'.ownBlock = some q → w.heap.size ≤ q) ∧ (∀ y ∈ K, ∀ q, y.v.ownBlock = some q → w.heap.size ≤ q ∨ ∃ t ∈ T, t.v.ownBlock = some q) := by
  have HD : Hid (RefIn w b last ins T vi vl) := h
  have HX : Hid (TAt w v xs) := hx
  have HV : Hid (∀ g, v.ownBlock = some g → g ≠ b) := hv
  have hbw := lt_of_heap h.main
  have c2 := cell_of_heap h.main 2 _ rfl
  obtain ⟨v1, w1, hrun1, hr1, hb1⟩ := copy_th w vl T h.row (by omega) (fun t ht => by
    obtain ⟨a, c, e⟩ := (h.all t ht).slice
    rw [e]; rfl)
  have HN1 : Hid (NewL (fun q => w.heap.size ≤ q ∨ ∃ t ∈ T, t.v.ownBlock = some q) w w1 b last ins vi vl v1 T) :=
    ⟨(hb1.block b hbw).trans h.main, h.ins.keep (fun g hg => hb1.block g (h.ins.lt g hg)), h.ni, hr1, fun y hy => (h.all y hy).keep (fun g hg => hb1.block g ((h.all y hy).lt g hg)), fun y hy g hg => ⟨h.nt y hy g hg, .inr ⟨y, hy, hg⟩⟩, Turn.of_below hb1⟩
  obtain ⟨la, lc, rfl⟩ := h.row.slice
  obtain ⟨ia, ic, rfl⟩ := h.ins.slice
  obtain ⟨xa, xc, rfl⟩ := hx.slice
  obtain ⟨na, nc, hnv⟩ := hr1.slice
  subst hnv
  clear h hx hv hr1 hb1
  go_enter Try.func13, Try.ntmps13
  go_wp2_with (first | (at_builtin; refine wpList_append_run rfl _ _ _ rfl _ _ rfl rfl hrun1 ?_) | go_in)
  clear hrun1
  go_loopw [5, 6] (fun lv iv wr => ∃ (k : Nat) (K : List Th), k ≤ xs.length ∧ iv = .int .i64 k ∧ NewL (fun q => w.heap.size ≤ q ∨ ∃ t ∈ T, t.v.ownBlock = some q) w wr b last ins (.slice ia ins.length ic) (.slice la T.length lc) lv K ∧ K.map keyT = T.map keyT ++ (xs.take k).map (fun x => (x, ins))) (fun _ iv _ => xs.length - (intOf iv).toNat)
  case atStart => exact ⟨0, T, Nat.zero_le _, rfl, HN1.out, by simp⟩
  case round =>
    obtain ⟨k, K, hk, rfl, hn, hkey⟩ := hrel
    have HN : Hid (NewL (fun q => w.heap.size ≤ q ∨ ∃ t ∈ T, t.v.ownBlock = some q) w wr b last ins (.slice ia ins.length ic) (.slice la T.length lc) u5 K) := hn
    have HK : Hid (K.map keyT = T.map keyT ++ (xs.take k).map (fun x => (x, ins))) := hkey
    have HKL : Hid (K.length = T.length + k) := by
      have := congrArg List.length hkey
      rw [List.length_map, List.length_append, List.length_map, List.length_map, List.length_take] at this
      show _ = _
      omega
    clear hn hkey
    have c1 := cell_of_heap HN.out.main 1 _ rfl
    have c2 := cell_of_heap HN.out.main 2 _ rfl
    have f2 := free_of_heap HN.out.main 2
    by_cases hlt : k < xs.length
    · rcases HX.out with ⟨_, h0⟩ | ⟨g, off, cap', he, hc1, hc2, hgl, hc⟩
      · rw [h0] at hlt; cases hlt
      cases he
      have hgb : g ≠ b := HV.out g rfl
      have d0 := (World.cell?_of_block (a := ⟨g, off + k, none⟩) (HN.out.turn.block g hgl hgb)).trans (hc k hlt)
      have HKS : Hid ((xs.take (k + 1)).map (fun x => (x, ins)) = (xs.take k).map (fun x => (x, ins)) ++ [(xs[k], ins)]) := by
        show _ = _
        rw [List.take_succ_eq_append_getElem hlt, List.map_append]
        rfl
      clear hc
      generalize xs[k] = x at *
      obtain ⟨v3, w3, hrun3, hr3, hb3⟩ := copy_ints wr.drew _ ins (TRow.at (HN.out.ins.keep (w' := wr.drew) (fun _ _ => rfl))) hli
      have hb3' : Below wr.heap.size wr w3 := ⟨hb3.os, hb3.tape, hb3.output, hb3.size, hb3.block⟩
      have hn3 := HN.out.below hb3'
      obtain ⟨ba, bc, hbv⟩ := hr3.slice
      subst hbv
      obtain ⟨v5, w5, hrun5, hn5, hot⟩ := hn3.push hbw (by have := HKL.out; omega) x ba ins.length bc ins (TRow.base hr3 (Nat.zero_le _)) (fun q hq => by have := hr3.ge q hq; have := HN.out.turn.size; have : wr.drew.heap.size = wr.heap.size := rfl; exact ⟨by omega, .inl (by omega)⟩)
      have hal0 : Below wr.heap.size wr (wr.alloc (Obj.cells #[] 3)) := (Below.refl _ _).alloc (Nat.le_refl _) _
      have z1 := (hal0.cell (p := ⟨b, 1, none⟩) (lt_of_cell c1)).trans c1
      have z0 := (hal0.cell (p := ⟨g, off + k, none⟩) (lt_of_cell d0)).trans d0
      have k1 := cell_of_heap hn3.main 1 _ rfl
      have k0 := (hb3'.cell (p := ⟨g, off + k, none⟩) (lt_of_cell d0)).trans d0
      have hal : Below w3.heap.size w3 (w3.alloc (Obj.cells #[.int .i64 x, .slice ba ins.length bc] 43)) := (Below.refl _ _).alloc (Nat.le_refl _) _
      have a1 := (hal.cell (p := ⟨b, 1, none⟩) (lt_of_cell k1)).trans k1
      have a0 := (hal.cell (p := ⟨g, off + k, none⟩) (lt_of_cell k0)).trans k0
      have q1 := cell_of_heap hn5.main 1 _ rfl
      have q0 := (World.cell?_of_block (a := ⟨g, off + k, none⟩) (hot g (lt_of_cell k0) (fun e => by have := hn3.row.ge g e; omega))).trans k0
      have HN5 : Hid (NewL (fun q => w.heap.size ≤ q ∨ ∃ t ∈ T, t.v.ownBlock = some q) w w5 b last ins (.slice ia ins.length ic) (.slice la T.length lc) v5 (K ++ [⟨x, .slice ba ins.length bc, ins⟩])) := hn5
      clear hn5 hn3 hot hr3 hb3 hb3' hal hal0
      go_wp2_with fail
      refine wp_region_held_drew (S := fun W => W.cell? ⟨b, 1, none⟩ = some (.slice ia ins.length ic) ∧ W.cell? ⟨g, off + k, none⟩ = some (.int .i64 x)) (by kernel_rfl) (by exact ⟨c1, d0⟩) (fun hHeld => ?_)
      change wpAnyH _ _ _ _ _ 15 (Array.replicate 15 false) _ _
      refine wpAnyH_take (i := 0) (oi := _) (v := _) (by simp only [List.getElem?_toArray, List.getElem?_cons_zero]; rfl) (by kernel_rfl) (by kernel_rfl) (by kernel_rfl) (by exact fun _ _ _ h => h) (Or.inl ⟨by rfl, by intro w' hSw; (try dsimp only at hSw); first | (go_simp; done) | (go_simp; with_reducible rfl)⟩) hHeld ?_
      simp only [Act.put, List.setIfInBounds_toArray, List.set_cons_zero, List.set_cons_succ]
      refine wpAnyH_take (i := 1) (oi := _) (v := _) (by simp only [List.getElem?_toArray, List.getElem?_cons_succ, List.getElem?_cons_zero]; rfl) (by kernel_rfl) (by kernel_rfl) (by kernel_rfl) (by exact fun _ _ _ h => h) (Or.inl ⟨by rfl, by intro w' hSw; (try dsimp only at hSw); first | (go_simp; done) | (go_simp; with_reducible rfl)⟩) hHeld ?_
      simp only [Act.put, List.setIfInBounds_toArray, List.set_cons_zero, List.set_cons_succ]
      refine wpAnyH_take (i := 2) (oi := _) (v := _) (by simp only [List.getElem?_toArray, List.getElem?_cons_succ, List.getElem?_cons_zero]; rfl) (by kernel_rfl) (by kernel_rfl) (by kernel_rfl) (by exact fun _ _ _ h => h) (Or.inl ⟨by rfl, by intro w' hSw; (try dsimp only at hSw); first | (go_simp; done) | (go_simp; with_reducible rfl)⟩) hHeld ?_
      simp only [Act.put, List.setIfInBounds_toArray, List.set_cons_zero, List.set_cons_succ]
      refine wpAnyH_take (i := 3) (oi := _) (v := _) (by simp only [List.getElem?_toArray, List.getElem?_cons_succ, List.getElem?_cons_zero]; rfl) (by kernel_rfl) (by kernel_rfl) (by kernel_rfl) (by exact fun _ _ _ h => h) (Or.inl ⟨by rfl, by intro w' hSw; (try dsimp only at hSw); first | (go_simp; done) | (go_simp; with_reducible rfl)⟩) hHeld ?_
      simp only [Act.put, List.setIfInBounds_toArray, List.set_cons_zero, List.set_cons_succ]
      refine wpAnyH_take (i := 4) (oi := _) (v := _) (by simp only [List.getElem?_toArray, List.getElem?_cons_succ, List.getElem?_cons_zero]; rfl) (by kernel_rfl) (by kernel_rfl) (by kernel_rfl) (by exact fun _ _ _ h => h) (Or.inl ⟨by rfl, by intro w' hSw; (try dsimp only at hSw); first | (go_simp; done) | (go_simp; with_reducible rfl)⟩) hHeld ?_
      simp only [Act.put, List.setIfInBounds_toArray, List.set_cons_zero, List.set_cons_succ]
      refine wpAnyH_take (i := 6) (oi := _) (v := _) (by simp only [List.getElem?_toArray, List.getElem?_cons_succ, List.getElem?_cons_zero]; rfl) (by kernel_rfl) (by kernel_rfl) (by kernel_rfl) (by exact fun _ _ _ h => h) (Or.inl ⟨by rfl, by intro w' hSw; (try dsimp only at hSw); first | (go_simp; done) | (go_simp; with_reducible rfl)⟩) hHeld ?_
      simp only [Act.put, List.setIfInBounds_toArray, List.set_cons_zero, List.set_cons_succ]
      refine wpAnyH_take (i := 7) (oi := _) (v := _) (by simp only [List.getElem?_toArray, List.getElem?_cons_succ, List.getElem?_cons_zero]; rfl) (by kernel_rfl) (by kernel_rfl) (by kernel_rfl) (by exact fun _ _ _ h => h) (Or.inl ⟨by rfl, by intro w' hSw; (try dsimp only at hSw); first | (go_simp; done) | (go_simp; with_reducible rfl)⟩) hHeld ?_
      simp only [Act.put, List.setIfInBounds_toArray, List.set_cons_zero, List.set_cons_succ]
      refine wpAnyH_take (i := 8) (oi := _) (v := _) (by simp only [List.getElem?_toArray, List.getElem?_cons_succ, List.getElem?_cons_zero]; rfl) (by kernel_rfl) (by kernel_rfl) (by kernel_rfl) (by exact fun _ _ _ h => h) (Or.inl ⟨by rfl, by intro w' hSw; (try dsimp only at hSw); first | (go_simp; done) | (go_simp; with_reducible rfl)⟩) hHeld ?_
      simp only [Act.put, List.setIfInBounds_toArray, List.set_cons_zero, List.set_cons_succ]
      refine wpAnyH_take (i := 9) (oi := _) (v := _) (by simp only [List.getElem?_toArray, List.getElem?_cons_succ, List.getElem?_cons_zero]; rfl) (by kernel_rfl) (by kernel_rfl) (by kernel_rfl) (by exact fun _ _ _ h => h) (Or.inl ⟨by rfl, by intro w' hSw; (try dsimp only at hSw); first | (go_simp; done) | (go_simp; with_reducible rfl)⟩) hHeld ?_
      simp only [Act.put, List.setIfInBounds_toArray, List.set_cons_zero, List.set_cons_succ]
      refine wpAnyH_ready (rs := [5]) (by kernel_rfl) (by simp) ?_
      refine AllReadyH.cons rfl (fun K hK => ?_) AllReadyH.nil
      go_simp
      refine hK.out _ _ ⟨z1, z0⟩ (fun hHeld => ?_)
      clear hK K
      refine wpAnyH_ready (rs := [10]) (by kernel_rfl) (by simp) ?_
      refine AllReadyH.cons (o := _) (by simp only [List.getElem?_toArray, List.getElem?_cons_succ, List.getElem?_cons_zero]; rfl) (fun K hK => ?_) AllReadyH.nil
      refine wpH_append (by rfl) rfl rfl rfl hrun3 ?_
      refine hK.out _ _ (⟨k1, k0⟩) (fun hHeld => ?_)
      clear hK K
      simp only [Act.put, List.setIfInBounds_toArray, List.set_cons_zero, List.set_cons_succ]
      refine wpAnyH_take (i := 11) (oi := _) (v := _) (by simp only [List.getElem?_toArray, List.getElem?_cons_succ, List.getElem?_cons_zero]; rfl) (by kernel_rfl) (by kernel_rfl) (by kernel_rfl) (by exact fun _ _ _ h => h) (Or.inl ⟨by rfl, by intro w' hSw; (try dsimp only at hSw); first | (go_simp; done) | (go_simp; with_reducible rfl)⟩) hHeld ?_
      simp only [Act.put, List.setIfInBounds_toArray, List.set_cons_zero, List.set_cons_succ]
      refine wpAnyH_ready (rs := [12]) (by kernel_rfl) (by simp) ?_
      refine AllReadyH.cons rfl (fun K hK => ?_) AllReadyH.nil
      go_simp
      refine hK.out _ _ ⟨a1, a0⟩ (fun hHeld => ?_)
      clear hK K
      refine wpAnyH_ready (rs := [13]) (by kernel_rfl) (by simp) ?_
      refine AllReadyH.cons (o := _) (by simp only [List.getElem?_toArray, List.getElem?_cons_succ, List.getElem?_cons_zero]; rfl) (fun K hK => ?_) AllReadyH.nil
      refine wpH_append (by rfl) rfl rfl rfl hrun5 ?_
      refine hK.out _ _ (⟨q1, q0⟩) (fun hHeld => ?_)
      clear hK K
      simp only [Act.put, List.setIfInBounds_toArray, List.set_cons_zero, List.set_cons_succ]
      refine wpAnyH_take (i := 14) (oi := _) (v := _) (by simp only [List.getElem?_toArray, List.getElem?_cons_succ, List.getElem?_cons_zero]; rfl) (by kernel_rfl) (by kernel_rfl) (by kernel_rfl) (by exact fun _ _ _ h => h) (Or.inl ⟨by rfl, by intro w' hSw; (try dsimp only at hSw); first | (go_simp; done) | (go_simp; with_reducible rfl)⟩) hHeld ?_
      simp only [Act.put, List.setIfInBounds_toArray, List.set_cons_zero, List.set_cons_succ]
      refine wpAnyH_done (by kernel_rfl) ?_ _
      clear hHeld hrun3 hrun5 z1 z0 k1 k0 a1 a0 q1 q0
      go_wp2_with fail
      go_roundw
      case rel => exact ⟨k + 1, K ++ [⟨x, .slice ba ins.length bc, ins⟩], by omega, by go_num, HN5.out, by rw [List.map_append, HK.out, HKS.out, List.append_assoc]; rfl⟩
      case measure => simp [intOf]; omega
    · obtain rfl : k = xs.length := by omega
      rw [List.take_length] at HK
      obtain ⟨w4, hw4⟩ : ∃ w4, w4 = wr.setCell ⟨b, 2, none⟩ u5 := ⟨_, rfl⟩
      have hm4 : w4.heap[b]? = some (.cells #[.int .i64 last, .slice ia ins.length ic, u5] 32 (0, 0)) := by rw [hw4]; exact heap_setCell_same wr b 2 _ _ _ HN.out.main
      have hot4 : ∀ q, q ≠ b → w4.heap[q]? = wr.heap[q]? := fun q hq => by rw [hw4]; exact heap_setCell_other wr ⟨b, 2, none⟩ q _ hq
      have hR : RefIn w4 b last ins K (.slice ia ins.length ic) u5 :=
        ⟨hm4, HN.out.ins.keep (fun q hq => hot4 q (HN.out.ni q hq)), ThRow.base (HN.out.row.keep (fun q hq => hot4 q (by have := HN.out.row.ge q hq; omega))) (Nat.zero_le _),
          fun y hy => (HN.out.all y hy).keep (fun q hq => hot4 q (HN.out.nb y hy q hq).1), HN.out.ni, fun y hy q hq => (HN.out.nb y hy q hq).1⟩
      have HT4 : Hid (Turn (fun k => k = b) w w4) := by show Turn _ _ _; rw [hw4]; exact HN.out.turn.setCell b 2 _ (.inl rfl)
      have hF := free_any hR (by have := HKL.out; omega)
      obtain ⟨za, zc, hlv⟩ := HN.out.row.slice
      subst hlv
      clear hm4 hot4 hR
      go_wp2_with fail
      rw [← hw4]
      clear hw4
      refine hF.mono ?_
      rintro e w5 ⟨v5, vl5, rfl, hr5, hR5, ht5, hge5⟩
      clear hF
      have HF : Hid (TRow w5 w.heap.size v5 ((emp K).map Th.x) ∧ RefIn w5 b last ins (non K) (.slice ia ins.length ic) vl5 ∧ Turn (fun k => k = b) w w5 ∧ (∀ q, vl5.ownBlock = some q → w.heap.size ≤ q)) :=
        ⟨TRow.base hr5 HT4.out.size, hR5, HT4.out.trans (ht5.mono (fun q e => .inl e)), fun q hq => by have := hge5 q hq; have := HT4.out.size; omega⟩
      obtain ⟨ra, rc, hrv⟩ := hr5.slice
      rw [List.length_map] at hrv
      subst hrv
      clear hr5 hR5 ht5 hge5
      go_wp2
      go_ret
      exact ⟨_, _, K, rfl, HK.out, HF.out.1, HF.out.2.1, HF.out.2.2.1, HF.out.2.2.2, fun y hy q hq => (HN.out.nb y hy q hq).2⟩

end Go.Proofs.Ytgfbcekmnpdoeaa.Hdi
