/-
  A command is submitted. No condition.
-/
import Derived.Test.YtkfphmhnaelflaaNvSet
namespace Go.Proofs.Ytkfphmhnaelflaa.Nv
open Go.ChangeShapes Go.WideShapes Go.ChangeAt Go.RowKit Go.Proofs.Fa

theorem info_cmd : (Try.prog.info? 37).map (fun i => (i.zero, i.size, i.bytes)) = some (some (.agg #[.int .i64 0, .int .i64 0, .string ⟨#[]⟩, .int .i64 0]), 4, 40) := by kernel_rfl

variable {w : World} {S : Nat → Prop} {b : Nat} {d : Dev} {vl vc vw vk : Value}

/-- Nothing old was turned: the device is what it was. -/
theorem DevIn.rests {w w' : World} {S : Nat → Prop} {b : Nat} {d : Dev} {vl vc vw vk : Value} (h : DevIn w S b d vl vc vw vk) (hb : Below w.heap.size w w') : DevIn w' (Grow S w w') b d vl vc vw vk :=
  (h.below hb).grow (fun _ hk => .inl hk) (fun k hk => Grow.lt h.lt hb.size k hk)

/-- Ahead of it nothing old was turned. -/
theorem DevIn.chain {w w1 w2 : World} {S : Nat → Prop} {b : Nat} {d : Dev} {vl vc vw vk : Value} (h : DevIn w2 (Grow S w1 w2) b d vl vc vw vk) (hb : Below w.heap.size w w1) :
    DevIn w2 (Grow S w w2) b d vl vc vw vk ∧ (Turn S w1 w2 → Turn S w w2) := by
  refine ⟨h.grow (fun k hk => ?_) (fun k hk => ?_), fun ht => (Turn.of_below hb).trans (ht.mono (fun k hk => .inl hk))⟩
  · rcases hk with hk | ⟨h1, h2⟩
    · exact .inl hk
    · exact .inr ⟨Nat.le_trans hb.size h1, h2⟩
  · rcases hk with hk | ⟨_, h2⟩
    · exact h.lt k (.inl hk)
    · exact h2
theorem cells_new (w : World) (v0 v1 v2 v3 : Value) (t : TypeId) (j : Nat) (u : Value) (h : [v0, v1, v2, v3][j]? = some u) : (w.alloc (Obj.cells #[v0, v1, v2, v3] t)).cell? ((⟨w.heap.size, 0, none⟩ : Addr).add j) = some u := by
  have e : (⟨w.heap.size, 0, none⟩ : Addr).add j = ⟨w.heap.size, j, none⟩ := by simp [Addr.add_lit]
  rw [e]
  exact cell_of_heap (heap_alloc_new w _) j u (by simpa using h)

theorem wpH_append {P : Program} {o : Oper} {a : Act} {w w' : World} {tm : Nat → Option Bool} {K : Act → World → Prop} {Q : Exit → Act → World → Prop} {s x : Operand} {t : TypeId} {v v2 v' : Value} (hwant : Region.wanted o tm = true)
    (ho : o.op = .call { callee := .builtin .append, args := #[s, x], argTypes := #[t, t] }) (hs : a.eval s = v) (hx : a.eval x = v2) (hr : (Builtin.append_ #[t, t] o.type #[v, v2]).run P w = .ok v' w') (hK : K (a.put o.dst v') w') :
    if Region.wanted o tm = true then Oper.wp P o a w K Q else K (a.put o.dst undef) w := by
  rw [if_pos hwant]
  unfold Oper.wp execOp
  simp only [ho, resolve, invoke, builtin, Sem.run_bind, Sem.run_pure, Result.andThen_ok, List.map_toArray, List.map_cons, List.map_nil, hs, hx, hr]
  exact hK

set_option maxRecDepth 100000
set_option maxHeartbeats 4000000

theorem submit_any (c : Cmd) (h : DevIn w S b d vl vc vw vk) (ho : Ok d) :
    Calls Try.prog 8 #[.pointer (some ⟨b, 0, none⟩), c.agg] w fun e w' => e = .returned (errV (submitN d c)) ∧ DevAt w' (Grow S w w') b (submitF d c) ∧ Turn S w w' := by
  have HN : Hid (Ok d) := ho
  have HD : Hid (DevIn w S b d vl vc vw vk) := h
  clear ho
  have HFIN : Hid (∀ (w1 : World) (n : Int), n ≠ 0 → submitN d c = n → Below w.heap.size w w1 → DevAt w1 (Grow S w w1) b (submitF d c) ∧ Turn S w w1) := by
    intro w1 n hn he hb
    have hs : submitF d c = d := by unfold submitF; rw [if_neg (by rw [he]; exact hn)]
    rw [hs]
    exact ⟨⟨_, _, _, _, h.rests hb⟩, Turn.of_below hb⟩
  obtain ⟨kd, sc, dt, tg⟩ := c
  obtain ⟨w0, hw0⟩ : ∃ w0, w0 = w.alloc (Obj.cells #[.int .i64 kd, .int .i64 sc, .string dt, .int .i64 tg] 37) := ⟨_, rfl⟩
  have HB0 : Hid (Below w.heap.size w w0) := by rw [hw0]; exact (Below.refl _ _).alloc (Nat.le_refl _) _
  have HX0 : Hid (w0.heap[w.heap.size]? = some (.cells #[.int .i64 kd, .int .i64 sc, .string dt, .int .i64 tg] 37 (0, 0))) := by rw [hw0]; exact heap_alloc_new _ _
  have HD0 : Hid (DevIn w0 S b d vl vc vw vk) := h.below HB0.out
  have q0 : w0.cell? ⟨w.heap.size, 0, none⟩ = some (.int .i64 kd) := cell_of_heap HX0.out 0 _ rfl
  have q1 : w0.cell? ⟨w.heap.size, 1, none⟩ = some (.int .i64 sc) := cell_of_heap HX0.out 1 _ rfl
  have q2 : w0.cell? ⟨w.heap.size, 2, none⟩ = some (.string dt) := cell_of_heap HX0.out 2 _ rfl
  have q3 : w0.cell? ⟨w.heap.size, 3, none⟩ = some (.int .i64 tg) := cell_of_heap HX0.out 3 _ rfl
  clear h
  rw [show Cmd.agg ⟨kd, sc, dt, tg⟩ = .agg #[.int .i64 kd, .int .i64 sc, .string dt, .int .i64 tg] from rfl]
  generalize hc : (⟨kd, sc, dt, tg⟩ : Cmd) = c at HFIN ⊢
  go_enter Try.func8, Try.ntmps8
  go_wp2_with fail
  rw [← hw0]
  clear hw0
  refine (powered_any HD0.out).mono ?_
  rintro e w1 ⟨rfl, rfl⟩
  cases hd : d.down
  case true =>
    have HNN : submitN d c = 3 := by unfold submitN; rw [if_pos hd]
    rw [show errV (if true = true then 3 else 0) = .iface 52 (.int .i64 3) from rfl]
    go_wp2
    go_ret
    exact ⟨by rw [HNN]; rfl, HFIN.out _ 3 (by decide) HNN HB0.out⟩
  case false =>
    rw [show errV (if false = true then 3 else 0) = .nilIface from rfl]
    obtain ⟨c2, hc2⟩ : ∃ c2, c2 = bareF c := ⟨_, rfl⟩
    have HSF : Hid (submitN d c = 0 → submitF d c = { d with waiting := d.waiting ++ [c2] }) := by
      intro h0; unfold submitF; rw [if_pos h0, hc2]
    have HNB : Hid (submitN d c = if c2.kind < 1 ∨ 4 < c2.kind ∨ (c2.kind ≠ 4 ∧ ¬ (0 ≤ c2.sector ∧ c2.sector < d.lasting.length)) then 1 else if isW c2 = true ∧ c2.data.size ≠ 512 then 10 else if d.depth ≤ d.waiting.length then 2 else 0) := by
      show _ = _
      unfold submitN
      rw [if_neg (by rw [hd]; decide), ← hc2]
    go_wp2_with fail
    refine Calls.mono (by have := bare_any ⟨kd, sc, dt, tg⟩ w1; rw [hc, ← hc2] at this; rw [← hc] at this; exact this) ?_
    rintro e w2 ⟨rfl, hb2⟩
    clear hc2
    obtain ⟨k2, s2, d2, t2⟩ := c2
    rw [show Cmd.agg ⟨k2, s2, d2, t2⟩ = .agg #[.int .i64 k2, .int .i64 s2, .string d2, .int .i64 t2] from rfl]
    have HX2 : Hid (w2.heap[w.heap.size]? = _) := (hb2.block _ (lt_of_heap HX0.out)).trans HX0.out
    have HB2 : Hid (Below w.heap.size w w2) := HB0.out.trans (hb2.mono HB0.out.size)
    clear hb2 q0 q1 q2 q3
    obtain ⟨q0, q1, q2, q3, z0, z1, z2, z3⟩ := agg4 HX2.out
    obtain ⟨w3, hw3⟩ : ∃ w3, w3 = ((((w2.setCell ⟨w.heap.size, 0, none⟩ (.int .i64 k2)).setCell ⟨w.heap.size, 1, none⟩ (.int .i64 s2)).setCell ⟨w.heap.size, 2, none⟩ (.string d2)).setCell ⟨w.heap.size, 3, none⟩ (.int .i64 t2)) := ⟨_, rfl⟩
    have HX3 : Hid (w3.heap[w.heap.size]? = some (.cells #[.int .i64 k2, .int .i64 s2, .string d2, .int .i64 t2] 37 (0, 0))) := by rw [hw3]; exact set4_heap HX2.out _ _ _ _
    have HB3 : Hid (Below w.heap.size w w3) := by rw [hw3]; exact set4_below HB2.out _ (Nat.le_refl _) _ _ _ _
    have HD3 : Hid (DevIn w3 S b d vl vc vw vk) := HD.out.below HB3.out
    by_cases hk1 : k2 < 1
    · have HNN := HNB.out
      rw [if_pos (.inl hk1)] at HNN
      go_wp2
      go_ret
      exact ⟨by rw [HNN]; rfl, by rw [← hw3]; exact HFIN.out _ 1 (by decide) HNN HB3.out⟩
    have hk1' : 1 ≤ k2 := by omega
    clear hk1
    by_cases hk4 : 4 < k2
    · have HNN := HNB.out
      rw [if_pos (.inr (.inl hk4))] at HNN
      go_wp2
      go_ret
      exact ⟨by rw [HNN]; rfl, by rw [← hw3]; exact HFIN.out _ 1 (by decide) HNN HB3.out⟩
    have hk4' : k2 ≤ 4 := by omega
    clear hk4
    have HN1 : Hid ((k2 = 4 ∨ (0 ≤ s2 ∧ s2 < d.lasting.length)) → submitN d c = if isW ⟨k2, s2, d2, t2⟩ = true ∧ d2.size ≠ 512 then 10 else if d.depth ≤ d.waiting.length then 2 else 0) := by
      intro hg
      rw [HNB.out, if_neg]
      rintro (h | h | ⟨h1, h2⟩)
      · have h' : k2 < 1 := h
        omega
      · have h' : 4 < k2 := h
        omega
      · rcases hg with hg | hg
        · exact h1 hg
        · exact h2 hg
    have r0 : w3.cell? ⟨w.heap.size, 0, none⟩ = some (.int .i64 k2) := cell_of_heap HX3.out 0 _ rfl
    by_cases h4 : k2 = 4
    · have hgood : k2 = 4 ∨ (0 ≤ s2 ∧ s2 < d.lasting.length) := .inl h4
      clear r0
      have hn4 : (k2 != 4) = false := by simpa using h4
      clear h4
      go_wp2_with fail
      rw [← hw3]
      clear hw3
      refine (isWrite_any ⟨k2, s2, d2, t2⟩ w3).mono ?_
      rintro e w4 ⟨rfl, hb4⟩
      have HX4 : Hid (w4.heap[w.heap.size]? = _) := (hb4.block _ (lt_of_heap HX3.out)).trans HX3.out
      have HB4 : Hid (Below w.heap.size w w4) := HB3.out.trans (hb4.mono HB3.out.size)
      have HD4 : Hid (DevIn w4 S b d vl vc vw vk) := HD3.out.below hb4
      obtain ⟨a0, a1, a2, a3, z0, z1, z2, z3⟩ := agg4 HX4.out
      obtain ⟨aw, capw, hvw, hwm⟩ := row_slice HD4.out.wai
      have m3 : w4.cell? ⟨b, 3, none⟩ = some (.slice aw d.waiting.length capw) := by rw [← hvw]; exact cell_of_heap HD4.out.main 3 _ rfl
      have m0 : w4.cell? ⟨b, 0, none⟩ = some (.int .i64 d.depth) := cell_of_heap HD4.out.main 0 _ rfl
      have hbs : b < w4.heap.size := lt_of_heap HD4.out.main
      clear hb4
      by_cases hl : isW ⟨k2, s2, d2, t2⟩ = true ∧ d2.size ≠ 512
      · have HNN := HN1.out hgood
        rw [if_pos hl] at HNN
        rw [hl.1]
        have hl2 : ((d2.size : Int) != 512) = true := by have := hl.2; simp; omega
        go_wp2
        go_ret
        exact ⟨by rw [HNN]; rfl, HFIN.out _ 10 (by decide) HNN HB4.out⟩
      · have HNN := HN1.out hgood
        rw [if_neg hl] at HNN
        by_cases hq : d.depth ≤ d.waiting.length
        · rw [if_pos hq] at HNN
          cases hw : isW ⟨k2, s2, d2, t2⟩
          · clear hl hw
            go_wp2_with fail
            go_region
            go_wp2
            go_ret
            exact ⟨by rw [HNN]; rfl, HFIN.out _ 2 (by decide) HNN HB4.out.drew⟩
          · have hl2 : ((d2.size : Int) != 512) = false := by
              have : d2.size = 512 := Decidable.byContradiction fun q => hl ⟨hw, q⟩
              simp [this]
            clear hl hw
            go_wp2_with fail
            go_region
            go_wp2
            go_ret
            exact ⟨by rw [HNN]; rfl, HFIN.out _ 2 (by decide) HNN HB4.out.drew⟩
        · rw [if_neg hq] at HNN
          have hwl := HN.out.wl
          obtain ⟨i0, hi, hz0, hz1, hz2⟩ := info_parts info_cmd
          obtain ⟨v', w5, hrun, hown', hgrow, hnear⟩ := run_append_near (P := Try.prog) (w4.alloc (Obj.cells #[.int .i64 k2, .int .i64 s2, .string d2, .int .i64 t2] 37)).drew.drew 0 44 44 37 i0 _ 4 40 Try.underlying44 hi hz0 hz1 hz2 rfl (by decide) vw d.waiting.length (ccells d.waiting) (HD4.out.wai.alloc _).drew.drew ⟨w4.heap.size, 0, none⟩ 1 1 [.int .i64 k2, .int .i64 s2, .string d2, .int .i64 t2] rfl (cells_new w4 _ _ _ _ _) (by intro u hu; simp only [List.mem_cons, List.not_mem_nil, or_false] at hu; rcases hu with rfl | rfl | rfl | rfl <;> rfl) (by unfold maxLen; omega) (by omega) (Nat.zero_le _)
          have hlen2 : ccells (d.waiting ++ [(⟨k2, s2, d2, t2⟩ : Cmd)]) = ccells d.waiting ++ [.int .i64 k2, .int .i64 s2, .string d2, .int .i64 t2] := by rw [ccells_append]; rfl
          have HO5 : Hid (w5.ownsRow 0 37 4 v' (d.waiting ++ [(⟨k2, s2, d2, t2⟩ : Cmd)]).length (ccells (d.waiting ++ [(⟨k2, s2, d2, t2⟩ : Cmd)]))) := by
            show World.ownsRow _ _ _ _ _ _ _
            rw [hlen2, List.length_append]; exact hown'
          obtain ⟨g5, cap5, hv5⟩ := row_some HO5.out (by simp)
          rw [show (d.waiting ++ [(⟨k2, s2, d2, t2⟩ : Cmd)]).length = d.waiting.length + 1 by simp] at hv5
          have HNE : Hid (vw.ownBlock ≠ some b) := fun e => row_ne HD4.out.wai HD4.out.main (by decide) b e rfl
          have HM5 : Hid (w5.heap[b]? = some (.cells (devCells d vl vc vw vk) 56 (0, 0))) := by
            refine (hgrow.block b (by simp; omega) (fun e => HNE.out e.symm)).trans ?_
            exact (Below.heap_alloc _ _ _ hbs).trans HD4.out.main
          have HT5 : Hid (Turn (fun k => vw.ownBlock = some k) w4 w5) := ((Turn.refl _ w4).alloc (Obj.cells #[.int .i64 k2, .int .i64 s2, .string d2, .int .i64 t2] 37)).drew.drew.trans (Turn.grown hgrow (fun g e => .inl e))
          have HNR : Hid (Near w4 vw v') := by
            rcases hnear with h | ⟨k, h, hk⟩
            · exact .inl h
            · exact .inr ⟨k, h, by simp at hk; omega⟩
          have n3 : w5.cell? ⟨b, 3, none⟩ = some (.slice aw d.waiting.length capw) := by rw [← hvw]; exact cell_of_heap HM5.out 3 _ rfl
          have nf : w5.frozen? ⟨b, 3, none⟩ = false := free_of_heap HM5.out 3
          rw [hvw] at hrun
          have hq' : (d.waiting.length : Int) < d.depth := by omega
          have HFF : Hid (DevAt (w5.setCell ⟨b, 3, none⟩ v') (Grow S w (w5.setCell ⟨b, 3, none⟩ v')) b (submitF d c) ∧ Turn S w (w5.setCell ⟨b, 3, none⟩ v')) := by
            have hT : Turn (fun k => k = b ∨ vw.ownBlock = some k) w4 (w5.setCell ⟨b, 3, none⟩ v') := (HT5.out.mono (fun _ e => .inr e)).setCell b 3 v' (.inl (.inl rfl))
            have hD := HD4.out.waits hT { d with waiting := d.waiting ++ [⟨k2, s2, d2, t2⟩] } v' (set_main HM5.out 3 v') (row_turn HO5.out (turn_set w5 b 3 v') (fun g e => row_ne HO5.out HM5.out (by decide) g e)) (.inl HNR.out) rfl rfl rfl
            rw [HSF.out HNN]
            exact ⟨⟨_, _, _, _, (hD.chain HB4.out).1⟩, (hD.chain HB4.out).2 (hT.mono (fun k e => by rcases e with rfl | e; exact HD4.out.sb; exact HD4.out.sw k e))⟩
          clear hown' hgrow hnear hlen2
          subst hv5
          cases hw : isW ⟨k2, s2, d2, t2⟩
          · clear hl hw hq
            go_wp2_with fail
            go_region
            go_wp2_with fail
            refine wp_region_held_drew (S := fun _ => True) (by kernel_rfl) (by exact True.intro) (fun hHeld => ?_)
            change wpAnyH _ _ _ _ _ 11 (Array.replicate 11 false) _ _
            refine wpAnyH_take (i := 0) (oi := _) (v := _) (by simp only [List.getElem?_toArray, List.getElem?_cons_zero]; rfl) (by kernel_rfl) (by kernel_rfl) (by kernel_rfl) (by exact fun _ _ _ h => h) (Or.inl ⟨by rfl, by intro w' hSw; (try dsimp only at hSw); first | (go_simp; done) | (go_simp; with_reducible rfl)⟩) hHeld ?_
            simp only [Act.put, List.setIfInBounds_toArray, List.set_cons_zero, List.set_cons_succ]
            refine wpAnyH_take (i := 1) (oi := _) (v := _) (by simp only [List.getElem?_toArray, List.getElem?_cons_succ, List.getElem?_cons_zero]; rfl) (by kernel_rfl) (by kernel_rfl) (by kernel_rfl) (by exact fun _ _ _ h => h) (Or.inl ⟨by rfl, by intro w' hSw; (try dsimp only at hSw); first | (go_simp; done) | (go_simp; with_reducible rfl)⟩) hHeld ?_
            simp only [Act.put, List.setIfInBounds_toArray, List.set_cons_zero, List.set_cons_succ]
            refine wpAnyH_take (i := 2) (oi := _) (v := _) (by simp only [List.getElem?_toArray, List.getElem?_cons_succ, List.getElem?_cons_zero]; rfl) (by kernel_rfl) (by kernel_rfl) (by kernel_rfl) (by exact fun _ _ _ h => h) (Or.inl ⟨by rfl, by intro w' hSw; (try dsimp only at hSw); first | (go_simp; done) | (go_simp; with_reducible rfl)⟩) hHeld ?_
            simp only [Act.put, List.setIfInBounds_toArray, List.set_cons_zero, List.set_cons_succ]
            refine wpAnyH_take (i := 3) (oi := _) (v := _) (by simp only [List.getElem?_toArray, List.getElem?_cons_succ, List.getElem?_cons_zero]; rfl) (by kernel_rfl) (by kernel_rfl) (by kernel_rfl) (by exact fun _ _ _ h => h) (Or.inl ⟨by rfl, by intro w' hSw; (try dsimp only at hSw); first | (go_simp; done) | (go_simp; with_reducible rfl)⟩) hHeld ?_
            simp only [Act.put, List.setIfInBounds_toArray, List.set_cons_zero, List.set_cons_succ]
            refine wpAnyH_ready (rs := [4, 5]) (by kernel_rfl) (by simp) ?_
            refine AllReadyH.cons rfl (fun K hK => ?_) (AllReadyH.cons rfl (fun K hK => ?_) AllReadyH.nil)
            · skip
              go_simp
              go_wp2_with fail
              refine hK.out _ _ True.intro (fun hHeld => ?_)
              clear hK K
              refine wpAnyH_ready (rs := [5]) (by kernel_rfl) (by simp) ?_
              refine AllReadyH.cons rfl (fun K hK => ?_) AllReadyH.nil
              go_simp
              go_wp2_with fail
              refine hK.out _ _ True.intro (fun hHeld => ?_)
              clear hK K
              refine wpAnyH_ready (rs := [6]) (by kernel_rfl) (by simp) ?_
              refine AllReadyH.cons rfl (fun K hK => ?_) AllReadyH.nil
              go_simp
              go_wp2_with fail
              refine hK.out _ _ True.intro (fun hHeld => ?_)
              clear hK K
              refine wpAnyH_ready (rs := [7]) (by kernel_rfl) (by simp) ?_
              refine AllReadyH.cons (o := _) (by simp only [List.getElem?_toArray, List.getElem?_cons_succ, List.getElem?_cons_zero]; rfl) (fun K hK => ?_) AllReadyH.nil
              refine wpH_append (by rfl) rfl rfl rfl hrun ?_
              refine hK.out _ _ True.intro (fun hHeld => ?_)
              clear hK K
              simp only [Act.put, List.setIfInBounds_toArray, List.set_cons_zero, List.set_cons_succ]
              refine wpAnyH_take (i := 8) (oi := _) (v := _) (by simp only [List.getElem?_toArray, List.getElem?_cons_succ, List.getElem?_cons_zero]; rfl) (by kernel_rfl) (by kernel_rfl) (by kernel_rfl) (by exact fun _ _ _ h => h) (Or.inl ⟨by rfl, by intro w' hSw; (try dsimp only at hSw); first | (go_simp; done) | (go_simp; with_reducible rfl)⟩) hHeld ?_
              simp only [Act.put, List.setIfInBounds_toArray, List.set_cons_zero, List.set_cons_succ]
              refine wpAnyH_take (i := 9) (oi := _) (v := _) (by simp only [List.getElem?_toArray, List.getElem?_cons_succ, List.getElem?_cons_zero]; rfl) (by kernel_rfl) (by kernel_rfl) (by kernel_rfl) (by exact fun _ _ _ h => h) (Or.inl ⟨by rfl, by intro w' hSw; (try dsimp only at hSw); first | (go_simp; done) | (go_simp; with_reducible rfl)⟩) hHeld ?_
              simp only [Act.put, List.setIfInBounds_toArray, List.set_cons_zero, List.set_cons_succ]
              refine wpAnyH_ready (rs := [10]) (by kernel_rfl) (by simp) ?_
              refine AllReadyH.cons rfl (fun K hK => ?_) AllReadyH.nil
              go_simp
              go_wp2_with fail
              refine hK.out _ _ True.intro (fun hHeld => ?_)
              clear hK K
              refine wpAnyH_done (by kernel_rfl) ?_ _
              go_wp2
              go_ret
              exact ⟨by rw [HNN]; rfl, HFF.out⟩
            · skip
              go_simp
              go_wp2_with fail
              refine hK.out _ _ True.intro (fun hHeld => ?_)
              clear hK K
              refine wpAnyH_ready (rs := [4, 6]) (by kernel_rfl) (by simp) ?_
              refine AllReadyH.cons rfl (fun K hK => ?_) (AllReadyH.cons rfl (fun K hK => ?_) AllReadyH.nil)
              · skip
                go_simp
                go_wp2_with fail
                refine hK.out _ _ True.intro (fun hHeld => ?_)
                clear hK K
                refine wpAnyH_ready (rs := [6]) (by kernel_rfl) (by simp) ?_
                refine AllReadyH.cons rfl (fun K hK => ?_) AllReadyH.nil
                go_simp
                go_wp2_with fail
                refine hK.out _ _ True.intro (fun hHeld => ?_)
                clear hK K
                refine wpAnyH_ready (rs := [7]) (by kernel_rfl) (by simp) ?_
                refine AllReadyH.cons (o := _) (by simp only [List.getElem?_toArray, List.getElem?_cons_succ, List.getElem?_cons_zero]; rfl) (fun K hK => ?_) AllReadyH.nil
                refine wpH_append (by rfl) rfl rfl rfl hrun ?_
                refine hK.out _ _ True.intro (fun hHeld => ?_)
                clear hK K
                simp only [Act.put, List.setIfInBounds_toArray, List.set_cons_zero, List.set_cons_succ]
                refine wpAnyH_take (i := 8) (oi := _) (v := _) (by simp only [List.getElem?_toArray, List.getElem?_cons_succ, List.getElem?_cons_zero]; rfl) (by kernel_rfl) (by kernel_rfl) (by kernel_rfl) (by exact fun _ _ _ h => h) (Or.inl ⟨by rfl, by intro w' hSw; (try dsimp only at hSw); first | (go_simp; done) | (go_simp; with_reducible rfl)⟩) hHeld ?_
                simp only [Act.put, List.setIfInBounds_toArray, List.set_cons_zero, List.set_cons_succ]
                refine wpAnyH_take (i := 9) (oi := _) (v := _) (by simp only [List.getElem?_toArray, List.getElem?_cons_succ, List.getElem?_cons_zero]; rfl) (by kernel_rfl) (by kernel_rfl) (by kernel_rfl) (by exact fun _ _ _ h => h) (Or.inl ⟨by rfl, by intro w' hSw; (try dsimp only at hSw); first | (go_simp; done) | (go_simp; with_reducible rfl)⟩) hHeld ?_
                simp only [Act.put, List.setIfInBounds_toArray, List.set_cons_zero, List.set_cons_succ]
                refine wpAnyH_ready (rs := [10]) (by kernel_rfl) (by simp) ?_
                refine AllReadyH.cons rfl (fun K hK => ?_) AllReadyH.nil
                go_simp
                go_wp2_with fail
                refine hK.out _ _ True.intro (fun hHeld => ?_)
                clear hK K
                refine wpAnyH_done (by kernel_rfl) ?_ _
                go_wp2
                go_ret
                exact ⟨by rw [HNN]; rfl, HFF.out⟩
              · skip
                go_simp
                go_wp2_with fail
                refine hK.out _ _ True.intro (fun hHeld => ?_)
                clear hK K
                refine wpAnyH_ready (rs := [4]) (by kernel_rfl) (by simp) ?_
                refine AllReadyH.cons rfl (fun K hK => ?_) AllReadyH.nil
                go_simp
                go_wp2_with fail
                refine hK.out _ _ True.intro (fun hHeld => ?_)
                clear hK K
                refine wpAnyH_ready (rs := [7]) (by kernel_rfl) (by simp) ?_
                refine AllReadyH.cons (o := _) (by simp only [List.getElem?_toArray, List.getElem?_cons_succ, List.getElem?_cons_zero]; rfl) (fun K hK => ?_) AllReadyH.nil
                refine wpH_append (by rfl) rfl rfl rfl hrun ?_
                refine hK.out _ _ True.intro (fun hHeld => ?_)
                clear hK K
                simp only [Act.put, List.setIfInBounds_toArray, List.set_cons_zero, List.set_cons_succ]
                refine wpAnyH_take (i := 8) (oi := _) (v := _) (by simp only [List.getElem?_toArray, List.getElem?_cons_succ, List.getElem?_cons_zero]; rfl) (by kernel_rfl) (by kernel_rfl) (by kernel_rfl) (by exact fun _ _ _ h => h) (Or.inl ⟨by rfl, by intro w' hSw; (try dsimp only at hSw); first | (go_simp; done) | (go_simp; with_reducible rfl)⟩) hHeld ?_
                simp only [Act.put, List.setIfInBounds_toArray, List.set_cons_zero, List.set_cons_succ]
                refine wpAnyH_take (i := 9) (oi := _) (v := _) (by simp only [List.getElem?_toArray, List.getElem?_cons_succ, List.getElem?_cons_zero]; rfl) (by kernel_rfl) (by kernel_rfl) (by kernel_rfl) (by exact fun _ _ _ h => h) (Or.inl ⟨by rfl, by intro w' hSw; (try dsimp only at hSw); first | (go_simp; done) | (go_simp; with_reducible rfl)⟩) hHeld ?_
                simp only [Act.put, List.setIfInBounds_toArray, List.set_cons_zero, List.set_cons_succ]
                refine wpAnyH_ready (rs := [10]) (by kernel_rfl) (by simp) ?_
                refine AllReadyH.cons rfl (fun K hK => ?_) AllReadyH.nil
                go_simp
                go_wp2_with fail
                refine hK.out _ _ True.intro (fun hHeld => ?_)
                clear hK K
                refine wpAnyH_done (by kernel_rfl) ?_ _
                go_wp2
                go_ret
                exact ⟨by rw [HNN]; rfl, HFF.out⟩
          · have hl2 : ((d2.size : Int) != 512) = false := by
              have : d2.size = 512 := Decidable.byContradiction fun q => hl ⟨hw, q⟩
              simp [this]
            clear hl hw hq
            go_wp2_with fail
            go_region
            go_wp2_with fail
            refine wp_region_held_drew (S := fun _ => True) (by kernel_rfl) (by exact True.intro) (fun hHeld => ?_)
            change wpAnyH _ _ _ _ _ 11 (Array.replicate 11 false) _ _
            refine wpAnyH_take (i := 0) (oi := _) (v := _) (by simp only [List.getElem?_toArray, List.getElem?_cons_zero]; rfl) (by kernel_rfl) (by kernel_rfl) (by kernel_rfl) (by exact fun _ _ _ h => h) (Or.inl ⟨by rfl, by intro w' hSw; (try dsimp only at hSw); first | (go_simp; done) | (go_simp; with_reducible rfl)⟩) hHeld ?_
            simp only [Act.put, List.setIfInBounds_toArray, List.set_cons_zero, List.set_cons_succ]
            refine wpAnyH_take (i := 1) (oi := _) (v := _) (by simp only [List.getElem?_toArray, List.getElem?_cons_succ, List.getElem?_cons_zero]; rfl) (by kernel_rfl) (by kernel_rfl) (by kernel_rfl) (by exact fun _ _ _ h => h) (Or.inl ⟨by rfl, by intro w' hSw; (try dsimp only at hSw); first | (go_simp; done) | (go_simp; with_reducible rfl)⟩) hHeld ?_
            simp only [Act.put, List.setIfInBounds_toArray, List.set_cons_zero, List.set_cons_succ]
            refine wpAnyH_take (i := 2) (oi := _) (v := _) (by simp only [List.getElem?_toArray, List.getElem?_cons_succ, List.getElem?_cons_zero]; rfl) (by kernel_rfl) (by kernel_rfl) (by kernel_rfl) (by exact fun _ _ _ h => h) (Or.inl ⟨by rfl, by intro w' hSw; (try dsimp only at hSw); first | (go_simp; done) | (go_simp; with_reducible rfl)⟩) hHeld ?_
            simp only [Act.put, List.setIfInBounds_toArray, List.set_cons_zero, List.set_cons_succ]
            refine wpAnyH_take (i := 3) (oi := _) (v := _) (by simp only [List.getElem?_toArray, List.getElem?_cons_succ, List.getElem?_cons_zero]; rfl) (by kernel_rfl) (by kernel_rfl) (by kernel_rfl) (by exact fun _ _ _ h => h) (Or.inl ⟨by rfl, by intro w' hSw; (try dsimp only at hSw); first | (go_simp; done) | (go_simp; with_reducible rfl)⟩) hHeld ?_
            simp only [Act.put, List.setIfInBounds_toArray, List.set_cons_zero, List.set_cons_succ]
            refine wpAnyH_ready (rs := [4, 5]) (by kernel_rfl) (by simp) ?_
            refine AllReadyH.cons rfl (fun K hK => ?_) (AllReadyH.cons rfl (fun K hK => ?_) AllReadyH.nil)
            · skip
              go_simp
              go_wp2_with fail
              refine hK.out _ _ True.intro (fun hHeld => ?_)
              clear hK K
              refine wpAnyH_ready (rs := [5]) (by kernel_rfl) (by simp) ?_
              refine AllReadyH.cons rfl (fun K hK => ?_) AllReadyH.nil
              go_simp
              go_wp2_with fail
              refine hK.out _ _ True.intro (fun hHeld => ?_)
              clear hK K
              refine wpAnyH_ready (rs := [6]) (by kernel_rfl) (by simp) ?_
              refine AllReadyH.cons rfl (fun K hK => ?_) AllReadyH.nil
              go_simp
              go_wp2_with fail
              refine hK.out _ _ True.intro (fun hHeld => ?_)
              clear hK K
              refine wpAnyH_ready (rs := [7]) (by kernel_rfl) (by simp) ?_
              refine AllReadyH.cons (o := _) (by simp only [List.getElem?_toArray, List.getElem?_cons_succ, List.getElem?_cons_zero]; rfl) (fun K hK => ?_) AllReadyH.nil
              refine wpH_append (by rfl) rfl rfl rfl hrun ?_
              refine hK.out _ _ True.intro (fun hHeld => ?_)
              clear hK K
              simp only [Act.put, List.setIfInBounds_toArray, List.set_cons_zero, List.set_cons_succ]
              refine wpAnyH_take (i := 8) (oi := _) (v := _) (by simp only [List.getElem?_toArray, List.getElem?_cons_succ, List.getElem?_cons_zero]; rfl) (by kernel_rfl) (by kernel_rfl) (by kernel_rfl) (by exact fun _ _ _ h => h) (Or.inl ⟨by rfl, by intro w' hSw; (try dsimp only at hSw); first | (go_simp; done) | (go_simp; with_reducible rfl)⟩) hHeld ?_
              simp only [Act.put, List.setIfInBounds_toArray, List.set_cons_zero, List.set_cons_succ]
              refine wpAnyH_take (i := 9) (oi := _) (v := _) (by simp only [List.getElem?_toArray, List.getElem?_cons_succ, List.getElem?_cons_zero]; rfl) (by kernel_rfl) (by kernel_rfl) (by kernel_rfl) (by exact fun _ _ _ h => h) (Or.inl ⟨by rfl, by intro w' hSw; (try dsimp only at hSw); first | (go_simp; done) | (go_simp; with_reducible rfl)⟩) hHeld ?_
              simp only [Act.put, List.setIfInBounds_toArray, List.set_cons_zero, List.set_cons_succ]
              refine wpAnyH_ready (rs := [10]) (by kernel_rfl) (by simp) ?_
              refine AllReadyH.cons rfl (fun K hK => ?_) AllReadyH.nil
              go_simp
              go_wp2_with fail
              refine hK.out _ _ True.intro (fun hHeld => ?_)
              clear hK K
              refine wpAnyH_done (by kernel_rfl) ?_ _
              go_wp2
              go_ret
              exact ⟨by rw [HNN]; rfl, HFF.out⟩
            · skip
              go_simp
              go_wp2_with fail
              refine hK.out _ _ True.intro (fun hHeld => ?_)
              clear hK K
              refine wpAnyH_ready (rs := [4, 6]) (by kernel_rfl) (by simp) ?_
              refine AllReadyH.cons rfl (fun K hK => ?_) (AllReadyH.cons rfl (fun K hK => ?_) AllReadyH.nil)
              · skip
                go_simp
                go_wp2_with fail
                refine hK.out _ _ True.intro (fun hHeld => ?_)
                clear hK K
                refine wpAnyH_ready (rs := [6]) (by kernel_rfl) (by simp) ?_
                refine AllReadyH.cons rfl (fun K hK => ?_) AllReadyH.nil
                go_simp
                go_wp2_with fail
                refine hK.out _ _ True.intro (fun hHeld => ?_)
                clear hK K
                refine wpAnyH_ready (rs := [7]) (by kernel_rfl) (by simp) ?_
                refine AllReadyH.cons (o := _) (by simp only [List.getElem?_toArray, List.getElem?_cons_succ, List.getElem?_cons_zero]; rfl) (fun K hK => ?_) AllReadyH.nil
                refine wpH_append (by rfl) rfl rfl rfl hrun ?_
                refine hK.out _ _ True.intro (fun hHeld => ?_)
                clear hK K
                simp only [Act.put, List.setIfInBounds_toArray, List.set_cons_zero, List.set_cons_succ]
                refine wpAnyH_take (i := 8) (oi := _) (v := _) (by simp only [List.getElem?_toArray, List.getElem?_cons_succ, List.getElem?_cons_zero]; rfl) (by kernel_rfl) (by kernel_rfl) (by kernel_rfl) (by exact fun _ _ _ h => h) (Or.inl ⟨by rfl, by intro w' hSw; (try dsimp only at hSw); first | (go_simp; done) | (go_simp; with_reducible rfl)⟩) hHeld ?_
                simp only [Act.put, List.setIfInBounds_toArray, List.set_cons_zero, List.set_cons_succ]
                refine wpAnyH_take (i := 9) (oi := _) (v := _) (by simp only [List.getElem?_toArray, List.getElem?_cons_succ, List.getElem?_cons_zero]; rfl) (by kernel_rfl) (by kernel_rfl) (by kernel_rfl) (by exact fun _ _ _ h => h) (Or.inl ⟨by rfl, by intro w' hSw; (try dsimp only at hSw); first | (go_simp; done) | (go_simp; with_reducible rfl)⟩) hHeld ?_
                simp only [Act.put, List.setIfInBounds_toArray, List.set_cons_zero, List.set_cons_succ]
                refine wpAnyH_ready (rs := [10]) (by kernel_rfl) (by simp) ?_
                refine AllReadyH.cons rfl (fun K hK => ?_) AllReadyH.nil
                go_simp
                go_wp2_with fail
                refine hK.out _ _ True.intro (fun hHeld => ?_)
                clear hK K
                refine wpAnyH_done (by kernel_rfl) ?_ _
                go_wp2
                go_ret
                exact ⟨by rw [HNN]; rfl, HFF.out⟩
              · skip
                go_simp
                go_wp2_with fail
                refine hK.out _ _ True.intro (fun hHeld => ?_)
                clear hK K
                refine wpAnyH_ready (rs := [4]) (by kernel_rfl) (by simp) ?_
                refine AllReadyH.cons rfl (fun K hK => ?_) AllReadyH.nil
                go_simp
                go_wp2_with fail
                refine hK.out _ _ True.intro (fun hHeld => ?_)
                clear hK K
                refine wpAnyH_ready (rs := [7]) (by kernel_rfl) (by simp) ?_
                refine AllReadyH.cons (o := _) (by simp only [List.getElem?_toArray, List.getElem?_cons_succ, List.getElem?_cons_zero]; rfl) (fun K hK => ?_) AllReadyH.nil
                refine wpH_append (by rfl) rfl rfl rfl hrun ?_
                refine hK.out _ _ True.intro (fun hHeld => ?_)
                clear hK K
                simp only [Act.put, List.setIfInBounds_toArray, List.set_cons_zero, List.set_cons_succ]
                refine wpAnyH_take (i := 8) (oi := _) (v := _) (by simp only [List.getElem?_toArray, List.getElem?_cons_succ, List.getElem?_cons_zero]; rfl) (by kernel_rfl) (by kernel_rfl) (by kernel_rfl) (by exact fun _ _ _ h => h) (Or.inl ⟨by rfl, by intro w' hSw; (try dsimp only at hSw); first | (go_simp; done) | (go_simp; with_reducible rfl)⟩) hHeld ?_
                simp only [Act.put, List.setIfInBounds_toArray, List.set_cons_zero, List.set_cons_succ]
                refine wpAnyH_take (i := 9) (oi := _) (v := _) (by simp only [List.getElem?_toArray, List.getElem?_cons_succ, List.getElem?_cons_zero]; rfl) (by kernel_rfl) (by kernel_rfl) (by kernel_rfl) (by exact fun _ _ _ h => h) (Or.inl ⟨by rfl, by intro w' hSw; (try dsimp only at hSw); first | (go_simp; done) | (go_simp; with_reducible rfl)⟩) hHeld ?_
                simp only [Act.put, List.setIfInBounds_toArray, List.set_cons_zero, List.set_cons_succ]
                refine wpAnyH_ready (rs := [10]) (by kernel_rfl) (by simp) ?_
                refine AllReadyH.cons rfl (fun K hK => ?_) AllReadyH.nil
                go_simp
                go_wp2_with fail
                refine hK.out _ _ True.intro (fun hHeld => ?_)
                clear hK K
                refine wpAnyH_done (by kernel_rfl) ?_ _
                go_wp2
                go_ret
                exact ⟨by rw [HNN]; rfl, HFF.out⟩

    · have hn4 : (k2 != 4) = true := by simpa using h4
      have HN4 : Hid (k2 ≠ 4) := h4
      clear r0 h4
      go_wp2_with fail
      rw [← hw3]
      clear hw3
      refine (has_any s2 HD3.out).mono ?_
      rintro e w3 ⟨rfl, rfl⟩
      obtain ⟨r0, r1, r2, r3, _⟩ := agg4 HX3.out
      cases hh : decide (0 ≤ s2 ∧ s2 < d.lasting.length)
      · have HNN := HNB.out
        rw [if_pos (.inr (.inr ⟨HN4.out, of_decide_eq_false hh⟩))] at HNN
        clear hh
        go_wp2
        go_ret
        exact ⟨by rw [HNN]; rfl, HFIN.out _ 1 (by decide) HNN HB3.out⟩
      have hgood : k2 = 4 ∨ (0 ≤ s2 ∧ s2 < d.lasting.length) := .inr (of_decide_eq_true hh)
      clear hh
      go_wp2_with fail
      refine (isWrite_any ⟨k2, s2, d2, t2⟩ w3).mono ?_
      rintro e w4 ⟨rfl, hb4⟩
      have HX4 : Hid (w4.heap[w.heap.size]? = _) := (hb4.block _ (lt_of_heap HX3.out)).trans HX3.out
      have HB4 : Hid (Below w.heap.size w w4) := HB3.out.trans (hb4.mono HB3.out.size)
      have HD4 : Hid (DevIn w4 S b d vl vc vw vk) := HD3.out.below hb4
      obtain ⟨a0, a1, a2, a3, z0, z1, z2, z3⟩ := agg4 HX4.out
      obtain ⟨aw, capw, hvw, hwm⟩ := row_slice HD4.out.wai
      have m3 : w4.cell? ⟨b, 3, none⟩ = some (.slice aw d.waiting.length capw) := by rw [← hvw]; exact cell_of_heap HD4.out.main 3 _ rfl
      have m0 : w4.cell? ⟨b, 0, none⟩ = some (.int .i64 d.depth) := cell_of_heap HD4.out.main 0 _ rfl
      have hbs : b < w4.heap.size := lt_of_heap HD4.out.main
      clear hb4
      by_cases hl : isW ⟨k2, s2, d2, t2⟩ = true ∧ d2.size ≠ 512
      · have HNN := HN1.out hgood
        rw [if_pos hl] at HNN
        rw [hl.1]
        have hl2 : ((d2.size : Int) != 512) = true := by have := hl.2; simp; omega
        go_wp2
        go_ret
        exact ⟨by rw [HNN]; rfl, HFIN.out _ 10 (by decide) HNN HB4.out⟩
      · have HNN := HN1.out hgood
        rw [if_neg hl] at HNN
        by_cases hq : d.depth ≤ d.waiting.length
        · rw [if_pos hq] at HNN
          cases hw : isW ⟨k2, s2, d2, t2⟩
          · clear hl hw
            go_wp2_with fail
            go_region
            go_wp2
            go_ret
            exact ⟨by rw [HNN]; rfl, HFIN.out _ 2 (by decide) HNN HB4.out.drew⟩
          · have hl2 : ((d2.size : Int) != 512) = false := by
              have : d2.size = 512 := Decidable.byContradiction fun q => hl ⟨hw, q⟩
              simp [this]
            clear hl hw
            go_wp2_with fail
            go_region
            go_wp2
            go_ret
            exact ⟨by rw [HNN]; rfl, HFIN.out _ 2 (by decide) HNN HB4.out.drew⟩
        · rw [if_neg hq] at HNN
          have hwl := HN.out.wl
          obtain ⟨i0, hi, hz0, hz1, hz2⟩ := info_parts info_cmd
          obtain ⟨v', w5, hrun, hown', hgrow, hnear⟩ := run_append_near (P := Try.prog) (w4.alloc (Obj.cells #[.int .i64 k2, .int .i64 s2, .string d2, .int .i64 t2] 37)).drew.drew 0 44 44 37 i0 _ 4 40 Try.underlying44 hi hz0 hz1 hz2 rfl (by decide) vw d.waiting.length (ccells d.waiting) (HD4.out.wai.alloc _).drew.drew ⟨w4.heap.size, 0, none⟩ 1 1 [.int .i64 k2, .int .i64 s2, .string d2, .int .i64 t2] rfl (cells_new w4 _ _ _ _ _) (by intro u hu; simp only [List.mem_cons, List.not_mem_nil, or_false] at hu; rcases hu with rfl | rfl | rfl | rfl <;> rfl) (by unfold maxLen; omega) (by omega) (Nat.zero_le _)
          have hlen2 : ccells (d.waiting ++ [(⟨k2, s2, d2, t2⟩ : Cmd)]) = ccells d.waiting ++ [.int .i64 k2, .int .i64 s2, .string d2, .int .i64 t2] := by rw [ccells_append]; rfl
          have HO5 : Hid (w5.ownsRow 0 37 4 v' (d.waiting ++ [(⟨k2, s2, d2, t2⟩ : Cmd)]).length (ccells (d.waiting ++ [(⟨k2, s2, d2, t2⟩ : Cmd)]))) := by
            show World.ownsRow _ _ _ _ _ _ _
            rw [hlen2, List.length_append]; exact hown'
          obtain ⟨g5, cap5, hv5⟩ := row_some HO5.out (by simp)
          rw [show (d.waiting ++ [(⟨k2, s2, d2, t2⟩ : Cmd)]).length = d.waiting.length + 1 by simp] at hv5
          have HNE : Hid (vw.ownBlock ≠ some b) := fun e => row_ne HD4.out.wai HD4.out.main (by decide) b e rfl
          have HM5 : Hid (w5.heap[b]? = some (.cells (devCells d vl vc vw vk) 56 (0, 0))) := by
            refine (hgrow.block b (by simp; omega) (fun e => HNE.out e.symm)).trans ?_
            exact (Below.heap_alloc _ _ _ hbs).trans HD4.out.main
          have HT5 : Hid (Turn (fun k => vw.ownBlock = some k) w4 w5) := ((Turn.refl _ w4).alloc (Obj.cells #[.int .i64 k2, .int .i64 s2, .string d2, .int .i64 t2] 37)).drew.drew.trans (Turn.grown hgrow (fun g e => .inl e))
          have HNR : Hid (Near w4 vw v') := by
            rcases hnear with h | ⟨k, h, hk⟩
            · exact .inl h
            · exact .inr ⟨k, h, by simp at hk; omega⟩
          have n3 : w5.cell? ⟨b, 3, none⟩ = some (.slice aw d.waiting.length capw) := by rw [← hvw]; exact cell_of_heap HM5.out 3 _ rfl
          have nf : w5.frozen? ⟨b, 3, none⟩ = false := free_of_heap HM5.out 3
          rw [hvw] at hrun
          have hq' : (d.waiting.length : Int) < d.depth := by omega
          have HFF : Hid (DevAt (w5.setCell ⟨b, 3, none⟩ v') (Grow S w (w5.setCell ⟨b, 3, none⟩ v')) b (submitF d c) ∧ Turn S w (w5.setCell ⟨b, 3, none⟩ v')) := by
            have hT : Turn (fun k => k = b ∨ vw.ownBlock = some k) w4 (w5.setCell ⟨b, 3, none⟩ v') := (HT5.out.mono (fun _ e => .inr e)).setCell b 3 v' (.inl (.inl rfl))
            have hD := HD4.out.waits hT { d with waiting := d.waiting ++ [⟨k2, s2, d2, t2⟩] } v' (set_main HM5.out 3 v') (row_turn HO5.out (turn_set w5 b 3 v') (fun g e => row_ne HO5.out HM5.out (by decide) g e)) (.inl HNR.out) rfl rfl rfl
            rw [HSF.out HNN]
            exact ⟨⟨_, _, _, _, (hD.chain HB4.out).1⟩, (hD.chain HB4.out).2 (hT.mono (fun k e => by rcases e with rfl | e; exact HD4.out.sb; exact HD4.out.sw k e))⟩
          clear hown' hgrow hnear hlen2
          subst hv5
          cases hw : isW ⟨k2, s2, d2, t2⟩
          · clear hl hw hq
            go_wp2_with fail
            go_region
            go_wp2_with fail
            refine wp_region_held_drew (S := fun _ => True) (by kernel_rfl) (by exact True.intro) (fun hHeld => ?_)
            change wpAnyH _ _ _ _ _ 11 (Array.replicate 11 false) _ _
            refine wpAnyH_take (i := 0) (oi := _) (v := _) (by simp only [List.getElem?_toArray, List.getElem?_cons_zero]; rfl) (by kernel_rfl) (by kernel_rfl) (by kernel_rfl) (by exact fun _ _ _ h => h) (Or.inl ⟨by rfl, by intro w' hSw; (try dsimp only at hSw); first | (go_simp; done) | (go_simp; with_reducible rfl)⟩) hHeld ?_
            simp only [Act.put, List.setIfInBounds_toArray, List.set_cons_zero, List.set_cons_succ]
            refine wpAnyH_take (i := 1) (oi := _) (v := _) (by simp only [List.getElem?_toArray, List.getElem?_cons_succ, List.getElem?_cons_zero]; rfl) (by kernel_rfl) (by kernel_rfl) (by kernel_rfl) (by exact fun _ _ _ h => h) (Or.inl ⟨by rfl, by intro w' hSw; (try dsimp only at hSw); first | (go_simp; done) | (go_simp; with_reducible rfl)⟩) hHeld ?_
            simp only [Act.put, List.setIfInBounds_toArray, List.set_cons_zero, List.set_cons_succ]
            refine wpAnyH_take (i := 2) (oi := _) (v := _) (by simp only [List.getElem?_toArray, List.getElem?_cons_succ, List.getElem?_cons_zero]; rfl) (by kernel_rfl) (by kernel_rfl) (by kernel_rfl) (by exact fun _ _ _ h => h) (Or.inl ⟨by rfl, by intro w' hSw; (try dsimp only at hSw); first | (go_simp; done) | (go_simp; with_reducible rfl)⟩) hHeld ?_
            simp only [Act.put, List.setIfInBounds_toArray, List.set_cons_zero, List.set_cons_succ]
            refine wpAnyH_take (i := 3) (oi := _) (v := _) (by simp only [List.getElem?_toArray, List.getElem?_cons_succ, List.getElem?_cons_zero]; rfl) (by kernel_rfl) (by kernel_rfl) (by kernel_rfl) (by exact fun _ _ _ h => h) (Or.inl ⟨by rfl, by intro w' hSw; (try dsimp only at hSw); first | (go_simp; done) | (go_simp; with_reducible rfl)⟩) hHeld ?_
            simp only [Act.put, List.setIfInBounds_toArray, List.set_cons_zero, List.set_cons_succ]
            refine wpAnyH_ready (rs := [4, 5]) (by kernel_rfl) (by simp) ?_
            refine AllReadyH.cons rfl (fun K hK => ?_) (AllReadyH.cons rfl (fun K hK => ?_) AllReadyH.nil)
            · skip
              go_simp
              go_wp2_with fail
              refine hK.out _ _ True.intro (fun hHeld => ?_)
              clear hK K
              refine wpAnyH_ready (rs := [5]) (by kernel_rfl) (by simp) ?_
              refine AllReadyH.cons rfl (fun K hK => ?_) AllReadyH.nil
              go_simp
              go_wp2_with fail
              refine hK.out _ _ True.intro (fun hHeld => ?_)
              clear hK K
              refine wpAnyH_ready (rs := [6]) (by kernel_rfl) (by simp) ?_
              refine AllReadyH.cons rfl (fun K hK => ?_) AllReadyH.nil
              go_simp
              go_wp2_with fail
              refine hK.out _ _ True.intro (fun hHeld => ?_)
              clear hK K
              refine wpAnyH_ready (rs := [7]) (by kernel_rfl) (by simp) ?_
              refine AllReadyH.cons (o := _) (by simp only [List.getElem?_toArray, List.getElem?_cons_succ, List.getElem?_cons_zero]; rfl) (fun K hK => ?_) AllReadyH.nil
              refine wpH_append (by rfl) rfl rfl rfl hrun ?_
              refine hK.out _ _ True.intro (fun hHeld => ?_)
              clear hK K
              simp only [Act.put, List.setIfInBounds_toArray, List.set_cons_zero, List.set_cons_succ]
              refine wpAnyH_take (i := 8) (oi := _) (v := _) (by simp only [List.getElem?_toArray, List.getElem?_cons_succ, List.getElem?_cons_zero]; rfl) (by kernel_rfl) (by kernel_rfl) (by kernel_rfl) (by exact fun _ _ _ h => h) (Or.inl ⟨by rfl, by intro w' hSw; (try dsimp only at hSw); first | (go_simp; done) | (go_simp; with_reducible rfl)⟩) hHeld ?_
              simp only [Act.put, List.setIfInBounds_toArray, List.set_cons_zero, List.set_cons_succ]
              refine wpAnyH_take (i := 9) (oi := _) (v := _) (by simp only [List.getElem?_toArray, List.getElem?_cons_succ, List.getElem?_cons_zero]; rfl) (by kernel_rfl) (by kernel_rfl) (by kernel_rfl) (by exact fun _ _ _ h => h) (Or.inl ⟨by rfl, by intro w' hSw; (try dsimp only at hSw); first | (go_simp; done) | (go_simp; with_reducible rfl)⟩) hHeld ?_
              simp only [Act.put, List.setIfInBounds_toArray, List.set_cons_zero, List.set_cons_succ]
              refine wpAnyH_ready (rs := [10]) (by kernel_rfl) (by simp) ?_
              refine AllReadyH.cons rfl (fun K hK => ?_) AllReadyH.nil
              go_simp
              go_wp2_with fail
              refine hK.out _ _ True.intro (fun hHeld => ?_)
              clear hK K
              refine wpAnyH_done (by kernel_rfl) ?_ _
              go_wp2
              go_ret
              exact ⟨by rw [HNN]; rfl, HFF.out⟩
            · skip
              go_simp
              go_wp2_with fail
              refine hK.out _ _ True.intro (fun hHeld => ?_)
              clear hK K
              refine wpAnyH_ready (rs := [4, 6]) (by kernel_rfl) (by simp) ?_
              refine AllReadyH.cons rfl (fun K hK => ?_) (AllReadyH.cons rfl (fun K hK => ?_) AllReadyH.nil)
              · skip
                go_simp
                go_wp2_with fail
                refine hK.out _ _ True.intro (fun hHeld => ?_)
                clear hK K
                refine wpAnyH_ready (rs := [6]) (by kernel_rfl) (by simp) ?_
                refine AllReadyH.cons rfl (fun K hK => ?_) AllReadyH.nil
                go_simp
                go_wp2_with fail
                refine hK.out _ _ True.intro (fun hHeld => ?_)
                clear hK K
                refine wpAnyH_ready (rs := [7]) (by kernel_rfl) (by simp) ?_
                refine AllReadyH.cons (o := _) (by simp only [List.getElem?_toArray, List.getElem?_cons_succ, List.getElem?_cons_zero]; rfl) (fun K hK => ?_) AllReadyH.nil
                refine wpH_append (by rfl) rfl rfl rfl hrun ?_
                refine hK.out _ _ True.intro (fun hHeld => ?_)
                clear hK K
                simp only [Act.put, List.setIfInBounds_toArray, List.set_cons_zero, List.set_cons_succ]
                refine wpAnyH_take (i := 8) (oi := _) (v := _) (by simp only [List.getElem?_toArray, List.getElem?_cons_succ, List.getElem?_cons_zero]; rfl) (by kernel_rfl) (by kernel_rfl) (by kernel_rfl) (by exact fun _ _ _ h => h) (Or.inl ⟨by rfl, by intro w' hSw; (try dsimp only at hSw); first | (go_simp; done) | (go_simp; with_reducible rfl)⟩) hHeld ?_
                simp only [Act.put, List.setIfInBounds_toArray, List.set_cons_zero, List.set_cons_succ]
                refine wpAnyH_take (i := 9) (oi := _) (v := _) (by simp only [List.getElem?_toArray, List.getElem?_cons_succ, List.getElem?_cons_zero]; rfl) (by kernel_rfl) (by kernel_rfl) (by kernel_rfl) (by exact fun _ _ _ h => h) (Or.inl ⟨by rfl, by intro w' hSw; (try dsimp only at hSw); first | (go_simp; done) | (go_simp; with_reducible rfl)⟩) hHeld ?_
                simp only [Act.put, List.setIfInBounds_toArray, List.set_cons_zero, List.set_cons_succ]
                refine wpAnyH_ready (rs := [10]) (by kernel_rfl) (by simp) ?_
                refine AllReadyH.cons rfl (fun K hK => ?_) AllReadyH.nil
                go_simp
                go_wp2_with fail
                refine hK.out _ _ True.intro (fun hHeld => ?_)
                clear hK K
                refine wpAnyH_done (by kernel_rfl) ?_ _
                go_wp2
                go_ret
                exact ⟨by rw [HNN]; rfl, HFF.out⟩
              · skip
                go_simp
                go_wp2_with fail
                refine hK.out _ _ True.intro (fun hHeld => ?_)
                clear hK K
                refine wpAnyH_ready (rs := [4]) (by kernel_rfl) (by simp) ?_
                refine AllReadyH.cons rfl (fun K hK => ?_) AllReadyH.nil
                go_simp
                go_wp2_with fail
                refine hK.out _ _ True.intro (fun hHeld => ?_)
                clear hK K
                refine wpAnyH_ready (rs := [7]) (by kernel_rfl) (by simp) ?_
                refine AllReadyH.cons (o := _) (by simp only [List.getElem?_toArray, List.getElem?_cons_succ, List.getElem?_cons_zero]; rfl) (fun K hK => ?_) AllReadyH.nil
                refine wpH_append (by rfl) rfl rfl rfl hrun ?_
                refine hK.out _ _ True.intro (fun hHeld => ?_)
                clear hK K
                simp only [Act.put, List.setIfInBounds_toArray, List.set_cons_zero, List.set_cons_succ]
                refine wpAnyH_take (i := 8) (oi := _) (v := _) (by simp only [List.getElem?_toArray, List.getElem?_cons_succ, List.getElem?_cons_zero]; rfl) (by kernel_rfl) (by kernel_rfl) (by kernel_rfl) (by exact fun _ _ _ h => h) (Or.inl ⟨by rfl, by intro w' hSw; (try dsimp only at hSw); first | (go_simp; done) | (go_simp; with_reducible rfl)⟩) hHeld ?_
                simp only [Act.put, List.setIfInBounds_toArray, List.set_cons_zero, List.set_cons_succ]
                refine wpAnyH_take (i := 9) (oi := _) (v := _) (by simp only [List.getElem?_toArray, List.getElem?_cons_succ, List.getElem?_cons_zero]; rfl) (by kernel_rfl) (by kernel_rfl) (by kernel_rfl) (by exact fun _ _ _ h => h) (Or.inl ⟨by rfl, by intro w' hSw; (try dsimp only at hSw); first | (go_simp; done) | (go_simp; with_reducible rfl)⟩) hHeld ?_
                simp only [Act.put, List.setIfInBounds_toArray, List.set_cons_zero, List.set_cons_succ]
                refine wpAnyH_ready (rs := [10]) (by kernel_rfl) (by simp) ?_
                refine AllReadyH.cons rfl (fun K hK => ?_) AllReadyH.nil
                go_simp
                go_wp2_with fail
                refine hK.out _ _ True.intro (fun hHeld => ?_)
                clear hK K
                refine wpAnyH_done (by kernel_rfl) ?_ _
                go_wp2
                go_ret
                exact ⟨by rw [HNN]; rfl, HFF.out⟩
          · have hl2 : ((d2.size : Int) != 512) = false := by
              have : d2.size = 512 := Decidable.byContradiction fun q => hl ⟨hw, q⟩
              simp [this]
            clear hl hw hq
            go_wp2_with fail
            go_region
            go_wp2_with fail
            refine wp_region_held_drew (S := fun _ => True) (by kernel_rfl) (by exact True.intro) (fun hHeld => ?_)
            change wpAnyH _ _ _ _ _ 11 (Array.replicate 11 false) _ _
            refine wpAnyH_take (i := 0) (oi := _) (v := _) (by simp only [List.getElem?_toArray, List.getElem?_cons_zero]; rfl) (by kernel_rfl) (by kernel_rfl) (by kernel_rfl) (by exact fun _ _ _ h => h) (Or.inl ⟨by rfl, by intro w' hSw; (try dsimp only at hSw); first | (go_simp; done) | (go_simp; with_reducible rfl)⟩) hHeld ?_
            simp only [Act.put, List.setIfInBounds_toArray, List.set_cons_zero, List.set_cons_succ]
            refine wpAnyH_take (i := 1) (oi := _) (v := _) (by simp only [List.getElem?_toArray, List.getElem?_cons_succ, List.getElem?_cons_zero]; rfl) (by kernel_rfl) (by kernel_rfl) (by kernel_rfl) (by exact fun _ _ _ h => h) (Or.inl ⟨by rfl, by intro w' hSw; (try dsimp only at hSw); first | (go_simp; done) | (go_simp; with_reducible rfl)⟩) hHeld ?_
            simp only [Act.put, List.setIfInBounds_toArray, List.set_cons_zero, List.set_cons_succ]
            refine wpAnyH_take (i := 2) (oi := _) (v := _) (by simp only [List.getElem?_toArray, List.getElem?_cons_succ, List.getElem?_cons_zero]; rfl) (by kernel_rfl) (by kernel_rfl) (by kernel_rfl) (by exact fun _ _ _ h => h) (Or.inl ⟨by rfl, by intro w' hSw; (try dsimp only at hSw); first | (go_simp; done) | (go_simp; with_reducible rfl)⟩) hHeld ?_
            simp only [Act.put, List.setIfInBounds_toArray, List.set_cons_zero, List.set_cons_succ]
            refine wpAnyH_take (i := 3) (oi := _) (v := _) (by simp only [List.getElem?_toArray, List.getElem?_cons_succ, List.getElem?_cons_zero]; rfl) (by kernel_rfl) (by kernel_rfl) (by kernel_rfl) (by exact fun _ _ _ h => h) (Or.inl ⟨by rfl, by intro w' hSw; (try dsimp only at hSw); first | (go_simp; done) | (go_simp; with_reducible rfl)⟩) hHeld ?_
            simp only [Act.put, List.setIfInBounds_toArray, List.set_cons_zero, List.set_cons_succ]
            refine wpAnyH_ready (rs := [4, 5]) (by kernel_rfl) (by simp) ?_
            refine AllReadyH.cons rfl (fun K hK => ?_) (AllReadyH.cons rfl (fun K hK => ?_) AllReadyH.nil)
            · skip
              go_simp
              go_wp2_with fail
              refine hK.out _ _ True.intro (fun hHeld => ?_)
              clear hK K
              refine wpAnyH_ready (rs := [5]) (by kernel_rfl) (by simp) ?_
              refine AllReadyH.cons rfl (fun K hK => ?_) AllReadyH.nil
              go_simp
              go_wp2_with fail
              refine hK.out _ _ True.intro (fun hHeld => ?_)
              clear hK K
              refine wpAnyH_ready (rs := [6]) (by kernel_rfl) (by simp) ?_
              refine AllReadyH.cons rfl (fun K hK => ?_) AllReadyH.nil
              go_simp
              go_wp2_with fail
              refine hK.out _ _ True.intro (fun hHeld => ?_)
              clear hK K
              refine wpAnyH_ready (rs := [7]) (by kernel_rfl) (by simp) ?_
              refine AllReadyH.cons (o := _) (by simp only [List.getElem?_toArray, List.getElem?_cons_succ, List.getElem?_cons_zero]; rfl) (fun K hK => ?_) AllReadyH.nil
              refine wpH_append (by rfl) rfl rfl rfl hrun ?_
              refine hK.out _ _ True.intro (fun hHeld => ?_)
              clear hK K
              simp only [Act.put, List.setIfInBounds_toArray, List.set_cons_zero, List.set_cons_succ]
              refine wpAnyH_take (i := 8) (oi := _) (v := _) (by simp only [List.getElem?_toArray, List.getElem?_cons_succ, List.getElem?_cons_zero]; rfl) (by kernel_rfl) (by kernel_rfl) (by kernel_rfl) (by exact fun _ _ _ h => h) (Or.inl ⟨by rfl, by intro w' hSw; (try dsimp only at hSw); first | (go_simp; done) | (go_simp; with_reducible rfl)⟩) hHeld ?_
              simp only [Act.put, List.setIfInBounds_toArray, List.set_cons_zero, List.set_cons_succ]
              refine wpAnyH_take (i := 9) (oi := _) (v := _) (by simp only [List.getElem?_toArray, List.getElem?_cons_succ, List.getElem?_cons_zero]; rfl) (by kernel_rfl) (by kernel_rfl) (by kernel_rfl) (by exact fun _ _ _ h => h) (Or.inl ⟨by rfl, by intro w' hSw; (try dsimp only at hSw); first | (go_simp; done) | (go_simp; with_reducible rfl)⟩) hHeld ?_
              simp only [Act.put, List.setIfInBounds_toArray, List.set_cons_zero, List.set_cons_succ]
              refine wpAnyH_ready (rs := [10]) (by kernel_rfl) (by simp) ?_
              refine AllReadyH.cons rfl (fun K hK => ?_) AllReadyH.nil
              go_simp
              go_wp2_with fail
              refine hK.out _ _ True.intro (fun hHeld => ?_)
              clear hK K
              refine wpAnyH_done (by kernel_rfl) ?_ _
              go_wp2
              go_ret
              exact ⟨by rw [HNN]; rfl, HFF.out⟩
            · skip
              go_simp
              go_wp2_with fail
              refine hK.out _ _ True.intro (fun hHeld => ?_)
              clear hK K
              refine wpAnyH_ready (rs := [4, 6]) (by kernel_rfl) (by simp) ?_
              refine AllReadyH.cons rfl (fun K hK => ?_) (AllReadyH.cons rfl (fun K hK => ?_) AllReadyH.nil)
              · skip
                go_simp
                go_wp2_with fail
                refine hK.out _ _ True.intro (fun hHeld => ?_)
                clear hK K
                refine wpAnyH_ready (rs := [6]) (by kernel_rfl) (by simp) ?_
                refine AllReadyH.cons rfl (fun K hK => ?_) AllReadyH.nil
                go_simp
                go_wp2_with fail
                refine hK.out _ _ True.intro (fun hHeld => ?_)
                clear hK K
                refine wpAnyH_ready (rs := [7]) (by kernel_rfl) (by simp) ?_
                refine AllReadyH.cons (o := _) (by simp only [List.getElem?_toArray, List.getElem?_cons_succ, List.getElem?_cons_zero]; rfl) (fun K hK => ?_) AllReadyH.nil
                refine wpH_append (by rfl) rfl rfl rfl hrun ?_
                refine hK.out _ _ True.intro (fun hHeld => ?_)
                clear hK K
                simp only [Act.put, List.setIfInBounds_toArray, List.set_cons_zero, List.set_cons_succ]
                refine wpAnyH_take (i := 8) (oi := _) (v := _) (by simp only [List.getElem?_toArray, List.getElem?_cons_succ, List.getElem?_cons_zero]; rfl) (by kernel_rfl) (by kernel_rfl) (by kernel_rfl) (by exact fun _ _ _ h => h) (Or.inl ⟨by rfl, by intro w' hSw; (try dsimp only at hSw); first | (go_simp; done) | (go_simp; with_reducible rfl)⟩) hHeld ?_
                simp only [Act.put, List.setIfInBounds_toArray, List.set_cons_zero, List.set_cons_succ]
                refine wpAnyH_take (i := 9) (oi := _) (v := _) (by simp only [List.getElem?_toArray, List.getElem?_cons_succ, List.getElem?_cons_zero]; rfl) (by kernel_rfl) (by kernel_rfl) (by kernel_rfl) (by exact fun _ _ _ h => h) (Or.inl ⟨by rfl, by intro w' hSw; (try dsimp only at hSw); first | (go_simp; done) | (go_simp; with_reducible rfl)⟩) hHeld ?_
                simp only [Act.put, List.setIfInBounds_toArray, List.set_cons_zero, List.set_cons_succ]
                refine wpAnyH_ready (rs := [10]) (by kernel_rfl) (by simp) ?_
                refine AllReadyH.cons rfl (fun K hK => ?_) AllReadyH.nil
                go_simp
                go_wp2_with fail
                refine hK.out _ _ True.intro (fun hHeld => ?_)
                clear hK K
                refine wpAnyH_done (by kernel_rfl) ?_ _
                go_wp2
                go_ret
                exact ⟨by rw [HNN]; rfl, HFF.out⟩
              · skip
                go_simp
                go_wp2_with fail
                refine hK.out _ _ True.intro (fun hHeld => ?_)
                clear hK K
                refine wpAnyH_ready (rs := [4]) (by kernel_rfl) (by simp) ?_
                refine AllReadyH.cons rfl (fun K hK => ?_) AllReadyH.nil
                go_simp
                go_wp2_with fail
                refine hK.out _ _ True.intro (fun hHeld => ?_)
                clear hK K
                refine wpAnyH_ready (rs := [7]) (by kernel_rfl) (by simp) ?_
                refine AllReadyH.cons (o := _) (by simp only [List.getElem?_toArray, List.getElem?_cons_succ, List.getElem?_cons_zero]; rfl) (fun K hK => ?_) AllReadyH.nil
                refine wpH_append (by rfl) rfl rfl rfl hrun ?_
                refine hK.out _ _ True.intro (fun hHeld => ?_)
                clear hK K
                simp only [Act.put, List.setIfInBounds_toArray, List.set_cons_zero, List.set_cons_succ]
                refine wpAnyH_take (i := 8) (oi := _) (v := _) (by simp only [List.getElem?_toArray, List.getElem?_cons_succ, List.getElem?_cons_zero]; rfl) (by kernel_rfl) (by kernel_rfl) (by kernel_rfl) (by exact fun _ _ _ h => h) (Or.inl ⟨by rfl, by intro w' hSw; (try dsimp only at hSw); first | (go_simp; done) | (go_simp; with_reducible rfl)⟩) hHeld ?_
                simp only [Act.put, List.setIfInBounds_toArray, List.set_cons_zero, List.set_cons_succ]
                refine wpAnyH_take (i := 9) (oi := _) (v := _) (by simp only [List.getElem?_toArray, List.getElem?_cons_succ, List.getElem?_cons_zero]; rfl) (by kernel_rfl) (by kernel_rfl) (by kernel_rfl) (by exact fun _ _ _ h => h) (Or.inl ⟨by rfl, by intro w' hSw; (try dsimp only at hSw); first | (go_simp; done) | (go_simp; with_reducible rfl)⟩) hHeld ?_
                simp only [Act.put, List.setIfInBounds_toArray, List.set_cons_zero, List.set_cons_succ]
                refine wpAnyH_ready (rs := [10]) (by kernel_rfl) (by simp) ?_
                refine AllReadyH.cons rfl (fun K hK => ?_) AllReadyH.nil
                go_simp
                go_wp2_with fail
                refine hK.out _ _ True.intro (fun hHeld => ?_)
                clear hK K
                refine wpAnyH_done (by kernel_rfl) ?_ _
                go_wp2
                go_ret
                exact ⟨by rw [HNN]; rfl, HFF.out⟩

end Go.Proofs.Ytkfphmhnaelflaa.Nv
