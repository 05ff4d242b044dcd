/-
  NvmeForces: a sector that was forced has that, whatever was written ahead of it and is kept. No condition.
-/
import Derived.Test.YtkfphmhnaelflaaNvSp
import Derived.Test.YtkfphmhnaelflaaNvItems
import Derived.Laws.DeepStrings4
namespace Go.Proofs.Ytkfphmhnaelflaa.Nv
open Go.ChangeShapes Go.WideShapes Go.ChangeAt Go.RowKit Go.Proofs.Fa

variable {w : World}

/-- A device of two sectors, whose cache has but the second one's. -/
structure One (d : Dev) (k : Nat) : Prop where
  depth : d.depth = 64
  las : d.lasting.length = 2
  wai : d.waiting = []
  down : d.down = false
  fail : d.failAt = 0
  keep : d.keep = []
  cac : ∀ c ∈ d.cache, c.sector = 1
  len : d.cache.length ≤ k
theorem One.ok {d : Dev} {k : Nat} (h : One d k) (hk : k ≤ 1000) : Ok d := by
  refine ⟨by rw [h.las]; decide, by rw [h.depth]; decide, fun c hc => ?_, fun c hc => ?_, by rw [h.wai]; exact Nat.zero_le _, by have := h.len; omega⟩
  · rw [h.cac c hc, h.las]; decide
  · rw [h.wai] at hc; cases hc
theorem one_new : One (newD 2 64) 0 := ⟨rfl, by simp [newD], rfl, rfl, rfl, rfl, fun c hc => (by cases hc), Nat.le_refl _⟩
theorem one_submit {d : Dev} {k : Nat} (h : One d k) (kd : Int) (hkd : kd = 2 ∨ kd = 3) (x : ByteArray) (hx : x.size = 512) : submitN d ⟨kd, 1, x, 0⟩ = 0 ∧ submitF d ⟨kd, 1, x, 0⟩ = { d with waiting := [⟨kd, 1, x, 0⟩] } := by
  have := submit_write (d := d) (c := ⟨kd, 1, x, 0⟩) (by rcases hkd with rfl | rfl <;> rfl) h.down ⟨by show (0 : Int) ≤ 1; decide, by show (1 : Int) < (d.lasting.length : Int); rw [h.las]; decide⟩ hx (by rw [h.wai, h.depth]; decide)
  rw [h.wai] at this
  exact this
theorem one_write {d : Dev} {k : Nat} (h : One d k) (x : ByteArray) : One (completeF { d with waiting := [⟨2, 1, x, 0⟩] } 0).1 (k + 1) := by
  rw [complete_alone (d := { d with waiting := [⟨2, 1, x, 0⟩] }) h.down rfl h.fail]
  refine ⟨h.depth, h.las, rfl, h.down, h.fail, h.keep, ?_, ?_⟩
  · intro c hc
    have hc' : c ∈ d.cache ++ [(⟨2, 1, x, 0⟩ : Cmd)] := hc
    rcases List.mem_append.1 hc' with hc | hc
    · exact h.cac c hc
    · simp only [List.mem_cons, List.not_mem_nil, or_false] at hc
      rw [hc]
  · show (d.cache ++ [(⟨2, 1, x, 0⟩ : Cmd)]).length ≤ k + 1
    rw [List.length_append]
    have := h.len
    simp
    omega
theorem one_force {d : Dev} {k : Nat} (h : One d k) (x : ByteArray) (K : List Int) : (completeF { d with waiting := [⟨3, 1, x, 0⟩] } 0).2 = (⟨3, 1, x, 0⟩, 0) ∧ lookN (bootF (crashF (completeF { d with waiting := [⟨3, 1, x, 0⟩] } 0).1 K)) 1 = 0 ∧ lookT (bootF (crashF (completeF { d with waiting := [⟨3, 1, x, 0⟩] } 0).1 K)) 1 = x := by
  rw [complete_alone (d := { d with waiting := [⟨3, 1, x, 0⟩] }) h.down rfl h.fail]
  have hc : d.cache.filter (fun o => !(o.sector == 1)) = [] := by
    rw [List.filter_eq_nil_iff]
    intro c hc
    simp [h.cac c hc]
  have hl := h.las
  obtain ⟨dp, las, cac, wai, dn, fa, kp, r, wr, fl⟩ := d
  have hd : dn = false := h.down
  subst hd
  match las, hl with
  | [a, b], _ =>
    dsimp only at hc
    refine ⟨rfl, ?_, ?_⟩
    · simp [finishF, crashF, bootF, lookN, settleL, hc, settleL_length]
    · simp [finishF, crashF, bootF, lookN, lookT, settleL, hc, unsureF, keptK, keptF, findL]

theorem wpList_append_run {P : Program} {w : World} {ops : Array Oper} {rest : List Oper} {o : Oper} {a : Act} {Q : Exit → Act → World → Prop} (hgd : o.guard = none) (s x : Operand) (t : TypeId)
    (ho : o.op = .call { callee := .builtin .append, args := #[s, x], argTypes := #[t, t] }) (v u : Value) (hs : a.eval s = v) (hx : a.eval x = u) {v' : Value} {w' : World}
    (hr : (Builtin.append_ #[t, t] o.type #[v, u]).run P w = .ok v' w') (h : wpList P ops Q rest (a.put o.dst v') w') : wpList P ops Q (o :: rest) a w := by
  refine wpList_plain hgd fun _ hK => ?_
  unfold Oper.wp execOp
  simp only [ho, resolve, invoke, builtin, Sem.run_bind, Sem.run_pure, Result.andThen_ok, List.map_toArray, List.map_cons, List.map_nil, hs, hx, hr]
  exact hK _ _ h
theorem info_int1 : (Try.prog.info? 3).map (fun i => (i.zero, i.size, i.bytes)) = some (some (.int .i64 0), 1, 8) := by kernel_rfl
/-- A row of its own, of the first of some numbers. -/
theorem keep_row (W : World) (a2 : Option Addr) (q cap2 : Nat) (L2 : Nat → Int) (hq : q ≤ 9) (hc : q = 0 ∨ ∃ b off, a2 = some ⟨b, off, none⟩ ∧ b < W.heap.size ∧ ∀ i, i < q → W.cell? ⟨b, off + i, none⟩ = some (.int .i64 (L2 i))) :
    ∃ v W', (Builtin.append_ #[23, 23] 23 #[.slice (some ⟨W.heap.size, 0, none⟩) 0 0, .slice a2 q cap2]).run Try.prog (W.alloc (Obj.cells #[] 3)) = .ok v W' ∧ W'.ownsRow 0 3 1 v ((List.range q).map L2).length (icells ((List.range q).map L2)) ∧ Below W.heap.size W W' := by
  have hl : ((List.range q).map L2).length = q := by simp
  obtain ⟨i0, hi, hz0, hz1, hz2⟩ := info_parts info_int1
  have hlit := World.ownsRow_lit (e := 3) (size := 1) W #[] 0 (Nat.le_refl W.heap.size) (by decide) rfl
  cases a2 with
  | none =>
    have h0 : q = 0 := by
      rcases hc with h | ⟨_, _, h, _⟩
      · exact h
      · cases h
    subst h0
    refine ⟨.slice (some ⟨W.heap.size, 0, none⟩) 0 0, W.alloc (Obj.cells #[] 3), ?_, row_base hlit (Nat.zero_le _), (Below.refl _ _).alloc (Nat.le_refl _) _⟩
    simp [Builtin.append_, run_underlying Try.underlying23, Builtin.lenOf, Builtin.firstCells, sizeOf, typeInfo, hi, storeCells]
  | some x =>
    have hnews : ∀ j u, (icells ((List.range q).map L2))[j]? = some u → (W.alloc (Obj.cells #[] 3)).cell? (x.add j) = some u := by
      intro j u hu
      have hj : j < q := by
        have := (List.getElem?_eq_some_iff.1 hu).1
        simpa [icells] using this
      rcases hc with h | ⟨b, off, e, hb, hcc⟩
      · omega
      · cases e
        rw [show (⟨b, off, none⟩ : Addr).add j = ⟨b, off + j, none⟩ by simp [Addr.add_lit]]
        refine (World.cell?_of_block (Below.heap_alloc _ _ _ hb)).trans ((hcc j hj).trans ?_)
        simp [icells, hj] at hu
        rw [← hu]
    obtain ⟨v, W', hr, ho, hg, _⟩ := run_append_near (P := Try.prog) (w := W.alloc (Obj.cells #[] 3)) W.heap.size 23 23 3 i0 (.int .i64 0) 1 8 Try.underlying23 hi hz0 hz1 hz2 rfl (by decide) _ 0 [] hlit x q cap2 (icells ((List.range q).map L2)) (by simp [icells]) hnews (icells_one _) (by unfold maxLen; omega) (by omega) (by simp)
    refine ⟨v, W', hr, ?_, ((Below.refl _ W).alloc (Nat.le_refl _) _).grown hg (by simp) (fun k e => by cases e; exact Nat.le_refl _)⟩
    rw [hl]
    rw [Nat.zero_add, List.nil_append] at ho
    exact row_base ho (Nat.zero_le _)

set_option maxRecDepth 100000
set_option maxHeartbeats 4000000

theorem nvmeForces_walk (a0 : Option Addr) (len0 cap0 : Nat) (L0 : Nat → ByteArray) (s : ByteArray) (a2 : Option Addr) (len2 cap2 : Nat) (L2 : Nat → Int) (w : World) (h0 : CellsAt w a0 len0 (fun i => .string (L0 i))) (hm0 : ∀ i, i < len0 → (L0 i).size ≤ maxLen) (hs : s.size ≤ maxLen) (h2 : CellsAt w a2 len2 (fun i => .int .i64 (L2 i))) (hl2 : len2 ≤ maxLen) (hcp2 : len2 ≤ cap2) :
    Calls Try.prog 5 #[.slice a0 len0 cap0, .string s, .slice a2 len2 cap2] w fun e w' => e = .returned (.bool true) ∧ Below w.heap.size w w' := by
  have H0 : Hid (CellsAt w a0 len0 (fun i => .string (L0 i))) := h0
  have H2 : Hid (CellsAt w a2 len2 (fun i => .int .i64 (L2 i))) := h2
  have HM0 : Hid (∀ i, i < len0 → (L0 i).size ≤ maxLen) := hm0
  clear h0 h2 hm0
  unfold maxLen at hs hl2
  go_enter Try.func5, Try.ntmps5
  go_wp2_with fail
  refine (speaks_any w).mono ?_
  rintro e w1 ⟨rfl, hb1⟩
  have HB1 : Hid (Below w.heap.size w w1) := hb1
  clear hb1
  go_wp2_with fail
  refine (new_any 2 64 (by decide) (by decide) (by decide) (by decide) w1).mono ?_
  rintro e w2 ⟨b, rfl, hd2, hb2⟩
  have HD2 : Hid (Lives w1.heap.size w2 b (newD 2 64)) := hd2
  have HB2 : Hid (Below w1.heap.size w1 w2) := hb2
  clear hd2 hb2
  go_wp2
  go_loopw [9] (fun i wr => ∃ (k : Nat) (d : Dev), i = .int .i64 k ∧ k ≤ 20 ∧ One d k ∧ Lives w1.heap.size wr b d ∧ Below w1.heap.size w1 wr) (fun i _ => 20 - (intOf i).toNat)
  case atStart => exact ⟨0, _, rfl, by decide, one_new, HD2.out, HB2.out⟩
  case round =>
    clear HD2 HB2
    obtain ⟨k, d, rfl, hk, hone, hd, hb⟩ := hrel
    have HN : Hid (One d k) := hone
    have HO : Hid (Ok d) := hone.ok (by omega)
    have HD : Hid (Lives w1.heap.size wr b d) := hd
    have HB : Hid (Below w1.heap.size w1 wr) := hb
    have HW : Hid (Below w.heap.size w wr) := HB1.out.trans (hb.mono HB1.out.size)
    clear hone hd hb
    by_cases hlt : k < len0 ∧ k < 20
    · obtain ⟨hlt1, hlt2⟩ := hlt
      obtain ⟨b0, off0, rfl, hb0, hc0⟩ : ∃ b0 off0, a0 = some ⟨b0, off0, none⟩ ∧ b0 < wr.heap.size ∧ ∀ i, i < len0 → wr.cell? ⟨b0, off0 + i, none⟩ = some (.string (L0 i)) := by
        rcases H0.out.below HW.out with h | h
        · omega
        · exact h
      have ck := hc0 k hlt1
      have HBW : Hid (b0 < w.heap.size) := by
        rcases H0.out with h | ⟨b', off', e, h, _⟩
        · omega
        · cases e; exact h
      have hxs : (L0 k).size ≤ 9223372036854775807 := by have := HM0.out k hlt1; unfold maxLen at this; omega
      generalize L0 k = x at ck hxs
      obtain ⟨m, hm⟩ : ∃ m : Nat, m = min x.size 20 := ⟨_, rfl⟩
      have hm1 : (if (20 : Int) < (x.size : Int) then (20 : Int) else (x.size : Int)) = (m : Int) := by split <;> omega
      have hm2 : min (x.size : Int) 20 = (m : Int) := by omega
      have hmx : m ≤ x.size := by omega
      have hm20 : m ≤ 20 := by omega
      clear hc0 hm
      have hy : (x.extract 0 m).size ≤ 20 := by rw [ByteArray.size_extract]; omega
      have hxi : ((off0 + k : Nat) : Int) = (off0 : Int) + (k : Int) := by omega
      go_wp2_with fail
      refine wp_region_held_drew (S := fun W => W.cell? ⟨b0, off0 + k, none⟩ = some (.string x)) (by kernel_rfl) (by exact ck) (fun hHeld => ?_)
      change wpAnyH _ _ _ _ _ 15 (Array.replicate 15 false) _ _
      refine wpAnyH_take (i := 0) (oi := _) (v := _) (by simp only [List.getElem?_toArray, List.getElem?_cons_zero]; rfl) (by kernel_rfl) (by kernel_rfl) (by kernel_rfl) (by exact fun _ _ _ h => h) (Or.inl ⟨by rfl, by intro w' hSw; (try dsimp only at hSw); first | (go_simp; done) | (go_simp; with_reducible rfl)⟩) hHeld ?_
      simp only [Act.put, List.setIfInBounds_toArray, List.set_cons_zero, List.set_cons_succ]
      refine wpAnyH_take (i := 1) (oi := _) (v := _) (by simp only [List.getElem?_toArray, List.getElem?_cons_succ, List.getElem?_cons_zero]; rfl) (by kernel_rfl) (by kernel_rfl) (by kernel_rfl) (by exact fun _ _ _ h => h) (Or.inl ⟨by rfl, by intro w' hSw; (try dsimp only at hSw); first | (go_simp; done) | (go_simp; with_reducible rfl)⟩) hHeld ?_
      simp only [Act.put, List.setIfInBounds_toArray, List.set_cons_zero, List.set_cons_succ]
      refine wpAnyH_take (i := 2) (oi := _) (v := _) (by simp only [List.getElem?_toArray, List.getElem?_cons_succ, List.getElem?_cons_zero]; rfl) (by kernel_rfl) (by kernel_rfl) (by kernel_rfl) (by exact fun _ _ _ h => h) (Or.inl ⟨by rfl, by intro w' hSw; (try dsimp only at hSw); first | (go_simp; done) | (go_simp; with_reducible rfl)⟩) hHeld ?_
      simp only [Act.put, List.setIfInBounds_toArray, List.set_cons_zero, List.set_cons_succ]
      refine wpAnyH_take (i := 3) (oi := _) (v := _) (by simp only [List.getElem?_toArray, List.getElem?_cons_succ, List.getElem?_cons_zero]; rfl) (by kernel_rfl) (by kernel_rfl) (by kernel_rfl) (by exact fun _ _ _ h => h) (Or.inl ⟨by rfl, by intro w' hSw; (try dsimp only at hSw); first | (go_simp; done) | (go_simp; with_reducible rfl)⟩) hHeld ?_
      simp only [Act.put, List.setIfInBounds_toArray, List.set_cons_zero, List.set_cons_succ]
      refine wpAnyH_take (i := 4) (oi := _) (v := _) (by simp only [List.getElem?_toArray, List.getElem?_cons_succ, List.getElem?_cons_zero]; rfl) (by kernel_rfl) (by kernel_rfl) (by kernel_rfl) (by exact fun _ _ _ h => h) (Or.inl ⟨by rfl, by intro w' hSw; (try dsimp only at hSw); first | (go_simp; done) | (go_simp; with_reducible rfl)⟩) hHeld ?_
      simp only [Act.put, List.setIfInBounds_toArray, List.set_cons_zero, List.set_cons_succ]
      refine wpAnyH_take (i := 5) (oi := _) (v := _) (by simp only [List.getElem?_toArray, List.getElem?_cons_succ, List.getElem?_cons_zero]; rfl) (by kernel_rfl) (by kernel_rfl) (by kernel_rfl) (by exact fun _ _ _ h => h) (Or.inl ⟨by rfl, by intro w' hSw; (try dsimp only at hSw); first | (go_simp; done) | (go_simp; with_reducible rfl)⟩) hHeld ?_
      simp only [Act.put, List.setIfInBounds_toArray, List.set_cons_zero, List.set_cons_succ]
      refine wpAnyH_take (i := 6) (oi := _) (v := _) (by simp only [List.getElem?_toArray, List.getElem?_cons_succ, List.getElem?_cons_zero]; rfl) (by kernel_rfl) (by kernel_rfl) (by kernel_rfl) (by exact fun _ _ _ h => h) (Or.inl ⟨by rfl, by intro w' hSw; (try dsimp only at hSw); first | (go_simp; done) | (go_simp; with_reducible rfl)⟩) hHeld ?_
      simp only [Act.put, List.setIfInBounds_toArray, List.set_cons_zero, List.set_cons_succ]
      refine wpAnyH_take (i := 7) (oi := _) (v := _) (by simp only [List.getElem?_toArray, List.getElem?_cons_succ, List.getElem?_cons_zero]; rfl) (by kernel_rfl) (by kernel_rfl) (by kernel_rfl) (by exact fun _ _ _ h => h) (Or.inl ⟨by rfl, by intro w' hSw; (try dsimp only at hSw); first | (go_simp; done) | (go_simp; with_reducible rfl)⟩) hHeld ?_
      simp only [Act.put, List.setIfInBounds_toArray, List.set_cons_zero, List.set_cons_succ]
      refine wpAnyH_take (i := 8) (oi := _) (v := _) (by simp only [List.getElem?_toArray, List.getElem?_cons_succ, List.getElem?_cons_zero]; rfl) (by kernel_rfl) (by kernel_rfl) (by kernel_rfl) (by exact fun _ _ _ h => h) (Or.inl ⟨by rfl, by intro w' hSw; (try dsimp only at hSw); first | (go_simp; done) | (go_simp; with_reducible rfl)⟩) hHeld ?_
      simp only [Act.put, List.setIfInBounds_toArray, List.set_cons_zero, List.set_cons_succ]
      refine wpAnyH_take (i := 9) (oi := _) (v := _) (by simp only [List.getElem?_toArray, List.getElem?_cons_succ, List.getElem?_cons_zero]; rfl) (by kernel_rfl) (by kernel_rfl) (by kernel_rfl) (by exact fun _ _ _ h => h) (Or.inl ⟨by rfl, by intro w' hSw; (try dsimp only at hSw); first | (go_simp; done) | (go_simp; with_reducible rfl)⟩) hHeld ?_
      simp only [Act.put, List.setIfInBounds_toArray, List.set_cons_zero, List.set_cons_succ]
      refine wpAnyH_take (i := 10) (oi := _) (v := _) (by simp only [List.getElem?_toArray, List.getElem?_cons_succ, List.getElem?_cons_zero]; rfl) (by kernel_rfl) (by kernel_rfl) (by kernel_rfl) (by exact fun _ _ _ h => h) (Or.inl ⟨by rfl, by intro w' hSw; (try dsimp only at hSw); first | (go_simp; done) | (go_simp; with_reducible rfl)⟩) hHeld ?_
      simp only [Act.put, List.setIfInBounds_toArray, List.set_cons_zero, List.set_cons_succ]
      refine wpAnyH_take (i := 11) (oi := _) (v := _) (by simp only [List.getElem?_toArray, List.getElem?_cons_succ, List.getElem?_cons_zero]; rfl) (by kernel_rfl) (by kernel_rfl) (by kernel_rfl) (by exact fun _ _ _ h => h) (Or.inl ⟨by rfl, by intro w' hSw; (try dsimp only at hSw); first | (go_simp; done) | (go_simp; with_reducible rfl)⟩) hHeld ?_
      simp only [Act.put, List.setIfInBounds_toArray, List.set_cons_zero, List.set_cons_succ]
      refine wpAnyH_ready (rs := [12]) (by kernel_rfl) (by simp) ?_
      refine AllReadyH.cons rfl (fun K hK => ?_) AllReadyH.nil
      go_simp
      go_wp2_with fail
      refine (full_any _ hy _).mono ?_
      rintro r w3 ⟨rfl, hb3⟩
      have hF : (fullB (x.extract 0 m)).size = 512 := fullB_size _ (by omega)
      generalize fullB (x.extract 0 m) = y at hF ⊢
      have HD3 : Hid (Lives w1.heap.size w3 b d) := HD.out.below (w' := w3) ⟨hb3.os, hb3.tape, hb3.output, hb3.size, hb3.block⟩
      have HB3 : Hid (Below w1.heap.size w1 w3) := HB.out.trans (Below.mono (B := wr.heap.size) ⟨hb3.os, hb3.tape, hb3.output, hb3.size, hb3.block⟩ HB.out.size)
      refine hK.out _ _ ((hb3.cell (p := ⟨b0, off0 + k, none⟩) hb0).trans hHeld) (fun hHeld => ?_)
      clear hK K
      refine wpAnyH_take (i := 13) (oi := _) (v := _) (by simp only [List.getElem?_toArray, List.getElem?_cons_succ, List.getElem?_cons_zero]; rfl) (by kernel_rfl) (by kernel_rfl) (by kernel_rfl) (by exact fun _ _ _ h => h) (Or.inl ⟨by rfl, by intro w' hSw; (try dsimp only at hSw); first | (go_simp; done) | (go_simp; with_reducible rfl)⟩) hHeld ?_
      simp only [Act.put, List.setIfInBounds_toArray, List.set_cons_zero, List.set_cons_succ]
      refine wpAnyH_ready (rs := [14]) (by kernel_rfl) (by simp) ?_
      refine AllReadyH.cons rfl (fun K hK => ?_) AllReadyH.nil
      go_simp
      go_wp2_with fail
      refine (live_submit ⟨2, 1, y, 0⟩ HD3.out HO.out HB3.out.size).mono ?_
      rintro r w4 ⟨rfl, hd4, hb4⟩
      rw [(one_submit HN.out 2 (.inl rfl) y hF).1, errV_0]
      rw [(one_submit HN.out 2 (.inl rfl) y hF).2] at hd4
      have HD4 : Hid (Lives w1.heap.size w4 b { d with waiting := [⟨2, 1, y, 0⟩] }) := hd4
      have HB4 : Hid (Below w1.heap.size w1 w4) := HB3.out.trans hb4
      refine hK.out _ _ ?hold (fun hHeld => ?_)
      case hold => exact (hb4.cell (p := ⟨b0, off0 + k, none⟩) (Nat.lt_of_lt_of_le HBW.out HB1.out.size)).trans hHeld
      clear hK K hd4 hb4
      refine wpAnyH_done (by kernel_rfl) ?_ _
      clear hHeld
      have HO4 : Hid (Ok { d with waiting := [⟨2, 1, y, 0⟩] }) := by
        have := HO.out.submit ⟨2, 1, y, 0⟩
        rw [(one_submit HN.out 2 (.inl rfl) y hF).2] at this
        exact this
      go_wp2_with fail
      refine (live_complete 0 HD4.out HO4.out (by show d.keep.length ≤ 1000000; rw [HN.out.keep]; decide) HB4.out.size).mono ?_
      rintro e w5 ⟨rfl, hd5, hb5⟩
      have HD5 : Hid (Lives w1.heap.size w5 b _) := hd5
      have HB5 : Hid (Below w1.heap.size w1 w5) := HB4.out.trans hb5
      have HN5 : Hid (One _ (k + 1)) := one_write HN.out y
      clear hd5 hb5
      obtain ⟨v5, hv5⟩ : ∃ v5, v5 = Value.tuple #[(completeF { d with waiting := [⟨2, 1, y, 0⟩] } 0).2.1.agg, errV (completeF { d with waiting := [⟨2, 1, y, 0⟩] } 0).2.2] := ⟨_, rfl⟩
      rw [← hv5]
      clear hv5
      go_wp2
      go_roundw
      case rel => exact ⟨k + 1, _, by go_num, by omega, HN5.out, HD5.out, HB5.out⟩
      case measure => simp [intOf]; omega
    · obtain ⟨m, hm⟩ : ∃ m : Nat, m = min s.size 20 := ⟨_, rfl⟩
      have hm1 : (if (20 : Int) < (s.size : Int) then (20 : Int) else (s.size : Int)) = (m : Int) := by split <;> omega
      have hm2 : min (s.size : Int) 20 = (m : Int) := by omega
      have hmx : m ≤ s.size := by omega
      have hm20 : m ≤ 20 := by omega
      have hy : (s.extract 0 m).size ≤ 20 := by rw [ByteArray.size_extract]; omega
      have hor : ¬ k < len0 ∨ (k < len0 ∧ ¬ k < 20) := by omega
      clear hm hlt
      rcases hor with g1 | ⟨g1, g2⟩
      all_goals
        go_wp2_with fail
        refine (full_any _ hy wr).mono ?_
        rintro r w3 ⟨rfl, hb3⟩
        have hF : (fullB (s.extract 0 m)).size = 512 := fullB_size _ (by omega)
        generalize fullB (s.extract 0 m) = y at hF ⊢
        have HD3 : Hid (Lives w1.heap.size w3 b d) := HD.out.below hb3
        have HB3 : Hid (Below w1.heap.size w1 w3) := HB.out.trans (hb3.mono HB.out.size)
        clear hb3
        go_wp2_with fail
        refine (live_submit ⟨3, 1, y, 0⟩ HD3.out HO.out HB3.out.size).mono ?_
        rintro r w4 ⟨rfl, hd4, hb4⟩
        rw [(one_submit HN.out 3 (.inr rfl) y hF).1, errV_0]
        rw [(one_submit HN.out 3 (.inr rfl) y hF).2] at hd4
        have HD4 : Hid (Lives w1.heap.size w4 b { d with waiting := [⟨3, 1, y, 0⟩] }) := hd4
        have HB4 : Hid (Below w1.heap.size w1 w4) := HB3.out.trans hb4
        have HO4 : Hid (Ok { d with waiting := [⟨3, 1, y, 0⟩] }) := by
          have := HO.out.submit ⟨3, 1, y, 0⟩
          rw [(one_submit HN.out 3 (.inr rfl) y hF).2] at this
          exact this
        clear hd4 hb4
        go_wp2_with fail
        refine (live_complete 0 HD4.out HO4.out (by show d.keep.length ≤ 1000000; rw [HN.out.keep]; decide) HB4.out.size).mono ?_
        rintro e w5 ⟨rfl, hd5, hb5⟩
        have HE5 : Hid (∀ K, lookN (bootF (crashF (completeF { d with waiting := [⟨3, 1, y, 0⟩] } 0).1 K)) 1 = 0 ∧ lookT (bootF (crashF (completeF { d with waiting := [⟨3, 1, y, 0⟩] } 0).1 K)) 1 = y) := fun K => (one_force HN.out y K).2
        have HO5 : Hid (Ok (completeF { d with waiting := [⟨3, 1, y, 0⟩] } 0).1) := HO4.out.complete 0 (by show d.cache.length < 1000000; have := HN.out.len; omega)
        rw [(one_force HN.out y []).1]
        obtain ⟨d5, hd5e⟩ : ∃ d5, (completeF { d with waiting := [⟨3, 1, y, 0⟩] } 0).1 = d5 := ⟨_, rfl⟩
        rw [hd5e] at hd5 HE5 HO5
        have HD5 : Hid (Lives w1.heap.size w5 b d5) := hd5
        have HB5 : Hid (Below w1.heap.size w1 w5) := HB4.out.trans hb5
        clear hd5 hb5 hd5e
        rw [show Cmd.agg ((⟨3, 1, y, 0⟩ : Cmd), (0 : Int)).1 = .agg #[.int .i64 3, .int .i64 1, .string y, .int .i64 0] from rfl, show errV ((⟨3, 1, y, 0⟩ : Cmd), (0 : Int)).2 = .nilIface from rfl]
        obtain ⟨q, hq⟩ : ∃ q : Nat, q = min len2 9 := ⟨_, rfl⟩
        have hq1 : (if (9 : Int) < (len2 : Int) then (9 : Int) else (len2 : Int)) = (q : Int) := by split <;> omega
        have hq2 : min (len2 : Int) 9 = (q : Int) := by omega
        have hqx : q ≤ len2 := by omega
        have hqc : q ≤ cap2 := by omega
        have hq9 : q ≤ 9 := by omega
        clear hq
        obtain ⟨w6, hw6⟩ : ∃ w6, w6 = w5.alloc (Obj.cells #[.int .i64 3, .int .i64 1, .string y, .int .i64 0] 37) := ⟨_, rfl⟩
        have HB6 : Hid (Below w5.heap.size w5 w6) := by rw [hw6]; exact (Below.refl _ _).alloc (Nat.le_refl _) _
        obtain ⟨v7, w7, hrun, ho7, hb7⟩ := keep_row w6 a2 q cap2 L2 hq9 (by
          rcases H2.out with h | ⟨b2, off2, e, hl, hc⟩
          · exact .inl (by omega)
          · have hz : Below w.heap.size w w6 := (HB1.out.trans (HB5.out.mono HB1.out.size)).trans (HB6.out.mono (Nat.le_trans HB1.out.size HB5.out.size))
            exact .inr ⟨b2, off2, e, Nat.lt_of_lt_of_le hl hz.size, fun i hi => (hz.cell (p := ⟨b2, off2 + i, none⟩) hl).trans (hc i (by omega))⟩)
        obtain ⟨a7, c7, hv7, _⟩ := row_slice ho7
        have HO7 : Hid (w7.ownsRow 0 3 1 v7 ((List.range q).map L2).length (icells ((List.range q).map L2))) := ho7
        have HB7 : Hid (Below w5.heap.size w5 w7) := HB6.out.trans (hb7.mono HB6.out.size)
        have HQL : Hid (((List.range q).map L2).length ≤ 1000000) := by show _ ≤ _; rw [List.length_map, List.length_range]; omega
        obtain ⟨KL, hKL⟩ : ∃ KL, (List.range q).map L2 = KL := ⟨_, rfl⟩
        rw [hKL] at HO7 HQL hv7
        rw [hw6, World.size_alloc] at hrun
        clear ho7 hb7 hw6 hKL
        subst hv7
        have HD7 : Hid (Lives w1.heap.size w7 b d5) := HD5.out.below HB7.out
        have hs7 : w1.heap.size ≤ w7.heap.size := Nat.le_trans HB5.out.size HB7.out.size
        have HS7 : Hid (w1.heap.size ≤ w7.heap.size) := hs7
        clear hs7
        have HRUN : Hid (_ = _) := hrun
        clear hrun
        go_wp2_with (at_builtin; refine wpList_append_run rfl _ _ 23 rfl _ _ rfl rfl HRUN.out ?_)
        refine (live_crash _ KL HD7.out HO5.out HO7.out HQL.out HS7.out).mono ?_
        rintro e w8 ⟨⟨u8, rfl⟩, hd8, hb8⟩
        have HD8 : Hid (Lives w1.heap.size w8 b (crashF d5 KL)) := hd8
        have HB8 : Hid (Below w1.heap.size w1 w8) := (HB5.out.trans (HB7.out.mono HB5.out.size)).trans hb8
        have HO8 : Hid (Ok (bootF (crashF d5 KL))) := (HO5.out.crash KL).boot
        clear hd8 hb8
        go_wp2_with fail
        refine (live_boot HD8.out HB8.out.size).mono ?_
        rintro e w9 ⟨⟨u9, rfl⟩, hd9, hb9⟩
        have HD9 : Hid (Lives w1.heap.size w9 b (bootF (crashF d5 KL))) := hd9
        have HB9 : Hid (Below w1.heap.size w1 w9) := HB8.out.trans hb9
        clear hd9 hb9
        go_wp2_with fail
        refine (live_look 1 HD9.out HO8.out).mono ?_
        rintro e w10 ⟨rfl, hd10, hb10⟩
        rw [(HE5.out KL).1, (HE5.out KL).2, errV_0]
        have HB10 : Hid (Below w.heap.size w w10) := (HB1.out.trans (HB9.out.mono HB1.out.size)).trans (hb10.mono (Nat.le_trans HB1.out.size HB9.out.size))
        clear hd10 hb10
        go_wp2
        go_ret
        exact ⟨rfl, HB10.out⟩

theorem nvmeForces_calls {H : Type} {enc : TypeId × Value → H} {sp : Nat → Bool} {held : Bool} {d0 d2 : DataW H} {p0 p2 : List MemPlace} (a0 : Option Addr) (len0 cap0 : Nat) (s : ByteArray) (a2 : Option Addr) (len2 cap2 : Nat) (w : World)
    (h0 : DataW.Trod enc Try.prog w 0 sp held 50 (.slice a0 len0 cap0) d0 p0) (hs : s.size ≤ maxLen) (h2 : DataW.Trod enc Try.prog w 0 sp held 23 (.slice a2 len2 cap2) d2 p2) :
    Calls Try.prog 5 #[.slice a0 len0 cap0, .string s, .slice a2 len2 cap2] w fun e w' => e = .returned (.bool true) ∧ Below w.heap.size w w' := by
  obtain ⟨L0, c0, m0, _, _⟩ := strs_of_trod h0
  obtain ⟨L2, c2, _, l2, k2⟩ := ints_of_trod h2
  exact nvmeForces_walk a0 len0 cap0 L0 s a2 len2 cap2 L2 w c0 m0 hs c2 l2 k2

end Go.Proofs.Ytkfphmhnaelflaa.Nv
