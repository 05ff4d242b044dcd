/-
  What a command does when it is completed. No condition.
-/
import Derived.Test.YtkfphmhnaelflaaNvFi
namespace Go.Proofs.Ytkfphmhnaelflaa.Nv
open Go.ChangeShapes Go.WideShapes Go.ChangeAt Go.RowKit Go.Proofs.Fa

variable {w : World} {S : Nat → Prop} {b : Nat} {d : Dev} {vl vc vw vk : Value}

theorem res_finish (tm : Array Value) (rb : Nat) (W : World) (c : Cmd) (h2 : tm[4]? = some (.pointer (some ⟨rb, 0, none⟩))) (h : W.heap[rb]? = some (.cells #[.int .i64 c.kind, .int .i64 c.sector, .string c.data, .int .i64 c.tag] 37 (0, 0))) :
    (results Try.f25 tm).run Try.prog W = .ok c.agg W := by
  obtain ⟨c0, c1, c2, c3, _⟩ := agg4 h
  clear h
  simp [results, Try.f25, go_sem, h2, c0, c1, c2, c3, Cmd.agg]

/-- Blocks that the call itself laid ahead are turned behind. -/
theorem DevIn.own2 {w w0 w1 w2 w' : World} {S : Nat → Prop} {b : Nat} {d : Dev} {vl vc vw vk : Value} (h : DevIn w2 (Grow S w1 w2) b d vl vc vw vk) (hS : ∀ k, S k → k < w.heap.size) (hb : Below w.heap.size w w0) (h1 : Turn S w0 w1) (ht : Turn S w1 w2) (hT : Turn (fun k => w.heap.size ≤ k ∧ k < w0.heap.size) w2 w') :
    DevIn w' (Grow S w w') b d vl vc vw vk ∧ Turn S w w' := by
  have hz := hb.size
  have hz1 := h1.size
  have hz2 := ht.size
  have hz3 := hT.size
  refine ⟨(h.turn hT ?_).grow ?_ ?_, ?_⟩
  · rintro k (hk | ⟨h1, _⟩) ⟨h3, h4⟩
    · have := hS k hk; omega
    · omega
  · rintro k (hk | ⟨h1, h2⟩)
    · exact .inl hk
    · exact .inr ⟨by omega, by omega⟩
  · exact fun k hk => Grow.lt hS (by omega) k hk
  · refine (Turn.of_below hb).trans ((h1.mono (fun k hk => .inl hk)).trans ((ht.mono (fun k hk => .inl (.inl hk))).trans (hT.mono ?_)))
    rintro k ⟨h1, h2⟩
    exact .inl (.inl (.inr ⟨h1, by omega⟩))
/-- Two steps as one. -/
theorem DevIn.join {w1 w2 w3 : World} {S : Nat → Prop} {b : Nat} {d : Dev} {vl vc vw vk : Value} (h : DevIn w3 (Grow (Grow S w1 w2) w2 w3) b d vl vc vw vk) (h1 : Turn S w1 w2) (h2 : Turn (Grow S w1 w2) w2 w3) : DevIn w3 (Grow S w1 w3) b d vl vc vw vk ∧ Turn S w1 w3 := by
  have hz1 := h1.size
  have hz2 := h2.size
  refine ⟨h.grow ?_ ?_, h1.trans h2⟩
  · rintro k ((hk | ⟨h1, h2⟩) | ⟨h1, h2⟩)
    · exact .inl hk
    · exact .inr ⟨h1, by omega⟩
    · exact .inr ⟨by omega, h2⟩
  · rintro k (hk | ⟨h1, h2⟩)
    · exact h.lt k (.inl (.inl hk))
    · exact h2
theorem turn_set4 {Q : Nat → Prop} {w0 w : World} (h : Turn Q w0 w) (z : Nat) (hz : Q z) (v0 v1 v2 v3 : Value) : Turn Q w0 ((((w.setCell ⟨z, 0, none⟩ v0).setCell ⟨z, 1, none⟩ v1).setCell ⟨z, 2, none⟩ v2).setCell ⟨z, 3, none⟩ v3) :=
  (((h.setCell z 0 v0 (.inl hz)).setCell z 1 v1 (.inl hz)).setCell z 2 v2 (.inl hz)).setCell z 3 v3 (.inl hz)

set_option maxRecDepth 100000
set_option maxHeartbeats 4000000

theorem finish_any (c : Cmd) (h : DevIn w S b d vl vc vw vk) (hcl : d.cache.length ≤ 1000000) (hll : d.lasting.length ≤ 100000) (hcs : ∀ c ∈ d.cache, 0 ≤ c.sector ∧ c.sector < d.lasting.length) (hk : 1 ≤ c.kind ∧ c.kind ≤ 4) (hs : 0 ≤ c.sector ∧ c.sector < d.lasting.length) :
    Calls Try.prog 25 #[.pointer (some ⟨b, 0, none⟩), c.agg] w fun e w' => e = .returned (finishF d c).2.agg ∧ DevAt w' (Grow S w w') b (finishF d c).1 ∧ Turn S w w' := by
  obtain ⟨kd, s, dt, tg⟩ := c
  have HS : Hid (0 ≤ s ∧ s < d.lasting.length) := hs
  have HCS : Hid (∀ c ∈ d.cache, 0 ≤ c.sector ∧ c.sector < d.lasting.length) := hcs
  have HD : Hid (DevIn w S b d vl vc vw vk) := h
  clear h hs hcs
  rw [show Cmd.agg ⟨kd, s, dt, tg⟩ = .agg #[.int .i64 kd, .int .i64 s, .string dt, .int .i64 tg] from rfl]
  rcases (by dsimp only at hk; omega : kd = 1 ∨ kd = 2 ∨ kd = 3 ∨ kd = 4) with rfl | rfl | rfl | rfl
  · -- kind 1
    obtain ⟨w0, hw0⟩ : ∃ w0, w0 = (w.alloc (Obj.cells #[.int .i64 1, .int .i64 s, .string dt, .int .i64 tg] 37)).alloc (Obj.cells #[.int .i64 0, .int .i64 0, .string ⟨#[]⟩, .int .i64 0] 37) := ⟨_, rfl⟩
    have HB0 : Hid (Below w.heap.size w w0) := by rw [hw0]; exact ((Below.refl _ _).alloc (Nat.le_refl _) _).alloc (by simp) _
    have HX0 : Hid (w0.heap[w.heap.size]? = some (.cells #[.int .i64 1, .int .i64 s, .string dt, .int .i64 tg] 37 (0, 0))) := by rw [hw0]; exact (Below.heap_alloc _ _ _ (by simp)).trans (heap_alloc_new w _)
    have HY0 : Hid (w0.heap[w.heap.size + 1]? = some (.cells #[.int .i64 0, .int .i64 0, .string ⟨#[]⟩, .int .i64 0] 37 (0, 0))) := by
      rw [hw0]
      have := heap_alloc_new (w.alloc (Obj.cells #[.int .i64 1, .int .i64 s, .string dt, .int .i64 tg] 37)) (Obj.cells #[.int .i64 0, .int .i64 0, .string ⟨#[]⟩, .int .i64 0] 37)
      rw [World.size_alloc] at this
      exact this
    have HD0 : Hid (DevIn w0 S b d vl vc vw vk) := HD.out.below HB0.out
    have ck : w0.cell? ⟨b, 7, none⟩ = some (.int .i64 d.reads) := cell_of_heap HD0.out.main 7 _ rfl
    have fk : w0.frozen? ⟨b, 7, none⟩ = false := free_of_heap HD0.out.main 7
    obtain ⟨w1, hw1⟩ : ∃ w1, w1 = w0.setCell ⟨b, 7, none⟩ (.int .i64 (wrap64 (d.reads + 1))) := ⟨_, rfl⟩
    have HD1 : Hid (DevIn w1 S b { d with reads := wrap64 (d.reads + 1) } vl vc vw vk) := by
      have hD := HD0.out.flags (turn_set w0 b 7 (.int .i64 (wrap64 (d.reads + 1)))) { d with reads := wrap64 (d.reads + 1) } (set_main HD0.out.main 7 _) rfl rfl rfl rfl
      rw [← hw1] at hD
      have hz : w1.heap.size = w0.heap.size := by rw [hw1]; simp
      exact ⟨hD.main, hD.las, hD.cac, hD.wai, hD.kee, HD0.out.sb, HD0.out.sl, HD0.out.sc, HD0.out.sw, HD0.out.sk, HD0.out.apart, fun k hk => by rw [hz]; exact HD0.out.lt k hk⟩
    have HT1 : Hid (Turn S w0 w1) := by rw [hw1]; exact (turn_set w0 b 7 _).mono (fun k e => by subst e; exact HD0.out.sb)
    have HX1 : Hid (w1.heap[w.heap.size]? = _) := (HT1.out.block _ (lt_of_heap HX0.out) (fun g => by have := HD.out.lt _ g; omega)).trans HX0.out
    have HY1 : Hid (w1.heap[w.heap.size + 1]? = _) := (HT1.out.block _ (lt_of_heap HY0.out) (fun g => by have := HD.out.lt _ g; omega)).trans HY0.out
    rw [show finishF d ⟨1, s, dt, tg⟩ = ({ d with reads := wrap64 (d.reads + 1) }, ⟨1, s, findL d.lasting d.cache s, tg⟩) from rfl]
    clear hk
    rw [hw0] at ck fk hw1
    obtain ⟨q0, q1, q2, q3, y0, y1, y2, y3⟩ := agg4 HX1.out
    go_enter Try.func25, Try.ntmps25
    go_wp2_with fail
    rw [← hw1]
    clear hw1 hw0 ck fk
    refine (find_any HD1.out s HS.out hcl hll).mono ?_
    rintro e w2 ⟨rfl, hb2⟩
    have HX2 : Hid (w2.heap[w.heap.size]? = _) := (hb2.block _ (lt_of_heap HX1.out)).trans HX1.out
    have HY2 : Hid (w2.heap[w.heap.size + 1]? = _) := (hb2.block _ (lt_of_heap HY1.out)).trans HY1.out
    have HD2 : Hid (DevIn w2 S b { d with reads := wrap64 (d.reads + 1) } vl vc vw vk) := HD1.out.below hb2
    have HB2 : Hid (Below w1.heap.size w1 w2) := hb2
    clear hb2 q0 q1 q2 q3 y0 y1 y2 y3
    obtain ⟨q0, q1, q2, q3, y0, y1, y2, y3⟩ := agg4 HX2.out
    obtain ⟨c0, c1, c2, c3, z0, z1, z2, z3⟩ := agg4 HY2.out
    obtain ⟨fd, hfd⟩ : ∃ fd, findL d.lasting d.cache s = fd := ⟨_, rfl⟩
    rw [hfd]
    have HFD : Hid (findL d.lasting d.cache s = fd) := hfd
    clear hfd
    go_wp2
    refine bodyPost_ret (res_finish _ (w.heap.size + 1) _ ⟨1, s, fd, tg⟩ rfl (set4_heap ((heap_setCell_other w2 ⟨w.heap.size, 2, none⟩ _ _ (by show w.heap.size + 1 ≠ w.heap.size; omega)).trans HY2.out) _ _ _ _)) rfl ?_
    have hR := lt_of_heap HY0.out
    have hF := (HD1.out.rests HB2.out).own2 HD.out.lt HB0.out HT1.out (Turn.of_below HB2.out) (turn_set4 ((Turn.refl (fun k => w.heap.size ≤ k ∧ k < w0.heap.size) w2).setCell w.heap.size 2 (.string fd) (.inl ⟨by omega, by omega⟩)) (w.heap.size + 1) ⟨by omega, by omega⟩ (.int .i64 1) (.int .i64 s) (.string fd) (.int .i64 tg))
    exact ⟨by rw [HFD.out], ⟨_, _, _, _, hF.1⟩, hF.2⟩
  · -- kind 2
    obtain ⟨w0, hw0⟩ : ∃ w0, w0 = (w.alloc (Obj.cells #[.int .i64 2, .int .i64 s, .string dt, .int .i64 tg] 37)).alloc (Obj.cells #[.int .i64 0, .int .i64 0, .string ⟨#[]⟩, .int .i64 0] 37) := ⟨_, rfl⟩
    have HB0 : Hid (Below w.heap.size w w0) := by rw [hw0]; exact ((Below.refl _ _).alloc (Nat.le_refl _) _).alloc (by simp) _
    have HX0 : Hid (w0.heap[w.heap.size]? = some (.cells #[.int .i64 2, .int .i64 s, .string dt, .int .i64 tg] 37 (0, 0))) := by rw [hw0]; exact (Below.heap_alloc _ _ _ (by simp)).trans (heap_alloc_new w _)
    have HY0 : Hid (w0.heap[w.heap.size + 1]? = some (.cells #[.int .i64 0, .int .i64 0, .string ⟨#[]⟩, .int .i64 0] 37 (0, 0))) := by
      rw [hw0]
      have := heap_alloc_new (w.alloc (Obj.cells #[.int .i64 2, .int .i64 s, .string dt, .int .i64 tg] 37)) (Obj.cells #[.int .i64 0, .int .i64 0, .string ⟨#[]⟩, .int .i64 0] 37)
      rw [World.size_alloc] at this
      exact this
    have HD0 : Hid (DevIn w0 S b d vl vc vw vk) := HD.out.below HB0.out
    have ck : w0.cell? ⟨b, 8, none⟩ = some (.int .i64 d.writes) := cell_of_heap HD0.out.main 8 _ rfl
    have fk : w0.frozen? ⟨b, 8, none⟩ = false := free_of_heap HD0.out.main 8
    obtain ⟨w1, hw1⟩ : ∃ w1, w1 = w0.setCell ⟨b, 8, none⟩ (.int .i64 (wrap64 (d.writes + 1))) := ⟨_, rfl⟩
    have HD1 : Hid (DevIn w1 S b { d with writes := wrap64 (d.writes + 1) } vl vc vw vk) := by
      have hD := HD0.out.flags (turn_set w0 b 8 (.int .i64 (wrap64 (d.writes + 1)))) { d with writes := wrap64 (d.writes + 1) } (set_main HD0.out.main 8 _) rfl rfl rfl rfl
      rw [← hw1] at hD
      have hz : w1.heap.size = w0.heap.size := by rw [hw1]; simp
      exact ⟨hD.main, hD.las, hD.cac, hD.wai, hD.kee, HD0.out.sb, HD0.out.sl, HD0.out.sc, HD0.out.sw, HD0.out.sk, HD0.out.apart, fun k hk => by rw [hz]; exact HD0.out.lt k hk⟩
    have HT1 : Hid (Turn S w0 w1) := by rw [hw1]; exact (turn_set w0 b 8 _).mono (fun k e => by subst e; exact HD0.out.sb)
    have HX1 : Hid (w1.heap[w.heap.size]? = _) := (HT1.out.block _ (lt_of_heap HX0.out) (fun g => by have := HD.out.lt _ g; omega)).trans HX0.out
    have HY1 : Hid (w1.heap[w.heap.size + 1]? = _) := (HT1.out.block _ (lt_of_heap HY0.out) (fun g => by have := HD.out.lt _ g; omega)).trans HY0.out
    clear hk
    rw [hw0] at ck fk hw1
    obtain ⟨q0, q1, q2, q3, y0, y1, y2, y3⟩ := agg4 HX1.out
    go_enter Try.func25, Try.ntmps25
    go_wp2_with fail
    rw [← hw1]
    clear hw1 hw0 ck fk
    refine (write_any ⟨2, s, dt, tg⟩ false HD1.out hcl hll HS.out).mono ?_
    rintro e w2 ⟨⟨u, rfl⟩, ⟨vl2, vc2, vw2, vk2, hd2⟩, ht2⟩
    have HX2 : Hid (w2.heap[w.heap.size]? = _) := (ht2.block _ (lt_of_heap HX1.out) (fun g => by have := HD.out.lt _ g; omega)).trans HX1.out
    have HY2 : Hid (w2.heap[w.heap.size + 1]? = _) := (ht2.block _ (lt_of_heap HY1.out) (fun g => by have := HD.out.lt _ g; omega)).trans HY1.out
    have HD2 : Hid (DevIn w2 (Grow S w1 w2) b _ vl2 vc2 vw2 vk2) := hd2
    have HT2 : Hid (Turn S w1 w2) := ht2
    clear hd2 ht2 q0 q1 q2 q3 y0 y1 y2 y3
    obtain ⟨q0, q1, q2, q3, y0, y1, y2, y3⟩ := agg4 HX2.out
    obtain ⟨c0, c1, c2, c3, z0, z1, z2, z3⟩ := agg4 HY2.out
    go_wp2
    refine bodyPost_ret (res_finish _ (w.heap.size + 1) _ ⟨2, s, dt, tg⟩ rfl (set4_heap HY2.out _ _ _ _)) rfl ?_
    have hR := lt_of_heap HY0.out
    have hF := HD2.out.own2 HD.out.lt HB0.out HT1.out HT2.out (turn_set4 (Turn.refl (fun k => w.heap.size ≤ k ∧ k < w0.heap.size) w2) (w.heap.size + 1) ⟨by omega, by omega⟩ (.int .i64 2) (.int .i64 s) (.string dt) (.int .i64 tg))
    exact ⟨rfl, ⟨_, _, _, _, hF.1⟩, hF.2⟩
  · -- kind 3
    obtain ⟨w0, hw0⟩ : ∃ w0, w0 = (w.alloc (Obj.cells #[.int .i64 3, .int .i64 s, .string dt, .int .i64 tg] 37)).alloc (Obj.cells #[.int .i64 0, .int .i64 0, .string ⟨#[]⟩, .int .i64 0] 37) := ⟨_, rfl⟩
    have HB0 : Hid (Below w.heap.size w w0) := by rw [hw0]; exact ((Below.refl _ _).alloc (Nat.le_refl _) _).alloc (by simp) _
    have HX0 : Hid (w0.heap[w.heap.size]? = some (.cells #[.int .i64 3, .int .i64 s, .string dt, .int .i64 tg] 37 (0, 0))) := by rw [hw0]; exact (Below.heap_alloc _ _ _ (by simp)).trans (heap_alloc_new w _)
    have HY0 : Hid (w0.heap[w.heap.size + 1]? = some (.cells #[.int .i64 0, .int .i64 0, .string ⟨#[]⟩, .int .i64 0] 37 (0, 0))) := by
      rw [hw0]
      have := heap_alloc_new (w.alloc (Obj.cells #[.int .i64 3, .int .i64 s, .string dt, .int .i64 tg] 37)) (Obj.cells #[.int .i64 0, .int .i64 0, .string ⟨#[]⟩, .int .i64 0] 37)
      rw [World.size_alloc] at this
      exact this
    have HD0 : Hid (DevIn w0 S b d vl vc vw vk) := HD.out.below HB0.out
    have ck : w0.cell? ⟨b, 8, none⟩ = some (.int .i64 d.writes) := cell_of_heap HD0.out.main 8 _ rfl
    have fk : w0.frozen? ⟨b, 8, none⟩ = false := free_of_heap HD0.out.main 8
    obtain ⟨w1, hw1⟩ : ∃ w1, w1 = w0.setCell ⟨b, 8, none⟩ (.int .i64 (wrap64 (d.writes + 1))) := ⟨_, rfl⟩
    have HD1 : Hid (DevIn w1 S b { d with writes := wrap64 (d.writes + 1) } vl vc vw vk) := by
      have hD := HD0.out.flags (turn_set w0 b 8 (.int .i64 (wrap64 (d.writes + 1)))) { d with writes := wrap64 (d.writes + 1) } (set_main HD0.out.main 8 _) rfl rfl rfl rfl
      rw [← hw1] at hD
      have hz : w1.heap.size = w0.heap.size := by rw [hw1]; simp
      exact ⟨hD.main, hD.las, hD.cac, hD.wai, hD.kee, HD0.out.sb, HD0.out.sl, HD0.out.sc, HD0.out.sw, HD0.out.sk, HD0.out.apart, fun k hk => by rw [hz]; exact HD0.out.lt k hk⟩
    have HT1 : Hid (Turn S w0 w1) := by rw [hw1]; exact (turn_set w0 b 8 _).mono (fun k e => by subst e; exact HD0.out.sb)
    have HX1 : Hid (w1.heap[w.heap.size]? = _) := (HT1.out.block _ (lt_of_heap HX0.out) (fun g => by have := HD.out.lt _ g; omega)).trans HX0.out
    have HY1 : Hid (w1.heap[w.heap.size + 1]? = _) := (HT1.out.block _ (lt_of_heap HY0.out) (fun g => by have := HD.out.lt _ g; omega)).trans HY0.out
    clear hk
    rw [hw0] at ck fk hw1
    obtain ⟨q0, q1, q2, q3, y0, y1, y2, y3⟩ := agg4 HX1.out
    go_enter Try.func25, Try.ntmps25
    go_wp2_with fail
    rw [← hw1]
    clear hw1 hw0 ck fk
    refine (write_any ⟨3, s, dt, tg⟩ true HD1.out hcl hll HS.out).mono ?_
    rintro e w2 ⟨⟨u, rfl⟩, ⟨vl2, vc2, vw2, vk2, hd2⟩, ht2⟩
    have HX2 : Hid (w2.heap[w.heap.size]? = _) := (ht2.block _ (lt_of_heap HX1.out) (fun g => by have := HD.out.lt _ g; omega)).trans HX1.out
    have HY2 : Hid (w2.heap[w.heap.size + 1]? = _) := (ht2.block _ (lt_of_heap HY1.out) (fun g => by have := HD.out.lt _ g; omega)).trans HY1.out
    have HD2 : Hid (DevIn w2 (Grow S w1 w2) b _ vl2 vc2 vw2 vk2) := hd2
    have HT2 : Hid (Turn S w1 w2) := ht2
    clear hd2 ht2 q0 q1 q2 q3 y0 y1 y2 y3
    obtain ⟨q0, q1, q2, q3, y0, y1, y2, y3⟩ := agg4 HX2.out
    obtain ⟨c0, c1, c2, c3, z0, z1, z2, z3⟩ := agg4 HY2.out
    go_wp2
    refine bodyPost_ret (res_finish _ (w.heap.size + 1) _ ⟨3, s, dt, tg⟩ rfl (set4_heap HY2.out _ _ _ _)) rfl ?_
    have hR := lt_of_heap HY0.out
    have hF := HD2.out.own2 HD.out.lt HB0.out HT1.out HT2.out (turn_set4 (Turn.refl (fun k => w.heap.size ≤ k ∧ k < w0.heap.size) w2) (w.heap.size + 1) ⟨by omega, by omega⟩ (.int .i64 3) (.int .i64 s) (.string dt) (.int .i64 tg))
    exact ⟨rfl, ⟨_, _, _, _, hF.1⟩, hF.2⟩
  · -- kind 4
    obtain ⟨w0, hw0⟩ : ∃ w0, w0 = (w.alloc (Obj.cells #[.int .i64 4, .int .i64 s, .string dt, .int .i64 tg] 37)).alloc (Obj.cells #[.int .i64 0, .int .i64 0, .string ⟨#[]⟩, .int .i64 0] 37) := ⟨_, rfl⟩
    have HB0 : Hid (Below w.heap.size w w0) := by rw [hw0]; exact ((Below.refl _ _).alloc (Nat.le_refl _) _).alloc (by simp) _
    have HX0 : Hid (w0.heap[w.heap.size]? = some (.cells #[.int .i64 4, .int .i64 s, .string dt, .int .i64 tg] 37 (0, 0))) := by rw [hw0]; exact (Below.heap_alloc _ _ _ (by simp)).trans (heap_alloc_new w _)
    have HY0 : Hid (w0.heap[w.heap.size + 1]? = some (.cells #[.int .i64 0, .int .i64 0, .string ⟨#[]⟩, .int .i64 0] 37 (0, 0))) := by
      rw [hw0]
      have := heap_alloc_new (w.alloc (Obj.cells #[.int .i64 4, .int .i64 s, .string dt, .int .i64 tg] 37)) (Obj.cells #[.int .i64 0, .int .i64 0, .string ⟨#[]⟩, .int .i64 0] 37)
      rw [World.size_alloc] at this
      exact this
    have HD0 : Hid (DevIn w0 S b d vl vc vw vk) := HD.out.below HB0.out
    have ck : w0.cell? ⟨b, 9, none⟩ = some (.int .i64 d.flushes) := cell_of_heap HD0.out.main 9 _ rfl
    have fk : w0.frozen? ⟨b, 9, none⟩ = false := free_of_heap HD0.out.main 9
    obtain ⟨w1, hw1⟩ : ∃ w1, w1 = w0.setCell ⟨b, 9, none⟩ (.int .i64 (wrap64 (d.flushes + 1))) := ⟨_, rfl⟩
    have HD1 : Hid (DevIn w1 S b { d with flushes := wrap64 (d.flushes + 1) } vl vc vw vk) := by
      have hD := HD0.out.flags (turn_set w0 b 9 (.int .i64 (wrap64 (d.flushes + 1)))) { d with flushes := wrap64 (d.flushes + 1) } (set_main HD0.out.main 9 _) rfl rfl rfl rfl
      rw [← hw1] at hD
      have hz : w1.heap.size = w0.heap.size := by rw [hw1]; simp
      exact ⟨hD.main, hD.las, hD.cac, hD.wai, hD.kee, HD0.out.sb, HD0.out.sl, HD0.out.sc, HD0.out.sw, HD0.out.sk, HD0.out.apart, fun k hk => by rw [hz]; exact HD0.out.lt k hk⟩
    have HT1 : Hid (Turn S w0 w1) := by rw [hw1]; exact (turn_set w0 b 9 _).mono (fun k e => by subst e; exact HD0.out.sb)
    have HX1 : Hid (w1.heap[w.heap.size]? = _) := (HT1.out.block _ (lt_of_heap HX0.out) (fun g => by have := HD.out.lt _ g; omega)).trans HX0.out
    have HY1 : Hid (w1.heap[w.heap.size + 1]? = _) := (HT1.out.block _ (lt_of_heap HY0.out) (fun g => by have := HD.out.lt _ g; omega)).trans HY0.out
    clear hk
    obtain ⟨ac, capc, hvc, _⟩ := row_slice HD.out.cac
    have m2 : w0.cell? ⟨b, 2, none⟩ = some (.slice ac d.cache.length capc) := by rw [← hvc]; exact cell_of_heap HD0.out.main 2 _ rfl
    rw [hw0] at ck fk hw1 m2
    obtain ⟨q0, q1, q2, q3, y0, y1, y2, y3⟩ := agg4 HX1.out
    go_enter Try.func25, Try.ntmps25
    go_wp2_with fail
    rw [← hw1]
    clear hw1 hw0 ck fk m2
    refine (settle_any HD1.out (.slice ac d.cache.length capc) d.cache (by rw [← hvc]; exact HD1.out.cac) HCS.out (by omega) hll).mono ?_
    rintro e w2 ⟨⟨u, rfl⟩, hd2, ht2⟩
    have HT2 : Hid (Turn S w1 w2) := ht2.mono (fun k hk => HD.out.sl k hk)
    have HX2 : Hid (w2.heap[w.heap.size]? = _) := (HT2.out.block _ (lt_of_heap HX1.out) (fun g => by have := HD.out.lt _ g; omega)).trans HX1.out
    have HY2 : Hid (w2.heap[w.heap.size + 1]? = _) := (HT2.out.block _ (lt_of_heap HY1.out) (fun g => by have := HD.out.lt _ g; omega)).trans HY1.out
    have HD2 : Hid (DevIn w2 (Grow S w1 w2) b _ vl vc vw vk) := hd2
    have n2 : w2.cell? ⟨b, 2, none⟩ = some (.slice ac d.cache.length capc) := by rw [← hvc]; exact cell_of_heap hd2.main 2 _ rfl
    have f2 : w2.frozen? ⟨b, 2, none⟩ = false := free_of_heap hd2.main 2
    have hbw : b < w.heap.size := HD.out.lt b HD.out.sb
    clear hd2 ht2 q0 q1 q2 q3 y0 y1 y2 y3
    obtain ⟨w3, hw3⟩ : ∃ w3, w3 = w2.setCell ⟨b, 2, none⟩ (.slice none 0 0) := ⟨_, rfl⟩
    have HX3 : Hid (w3.heap[w.heap.size]? = some (.cells #[.int .i64 4, .int .i64 s, .string dt, .int .i64 tg] 37 (0, 0))) := by rw [hw3]; exact (heap_setCell_other w2 ⟨b, 2, none⟩ _ _ (by show w.heap.size ≠ b; omega)).trans HX2.out
    have HY3 : Hid (w3.heap[w.heap.size + 1]? = some (.cells #[.int .i64 0, .int .i64 0, .string ⟨#[]⟩, .int .i64 0] 37 (0, 0))) := by rw [hw3]; exact (heap_setCell_other w2 ⟨b, 2, none⟩ _ _ (by show w.heap.size + 1 ≠ b; omega)).trans HY2.out
    have HD3 : Hid (DevIn w3 (Grow S w1 w3) b { d with flushes := wrap64 (d.flushes + 1), lasting := settleL d.lasting d.cache, cache := [] } vl (.slice none 0 0) vw vk ∧ Turn S w1 w3) := by
      have h3 := HD2.out.caches (w' := w3) (by rw [hw3]; exact (turn_set w2 b 2 _).mono (fun _ e => .inl e)) { d with flushes := wrap64 (d.flushes + 1), lasting := settleL d.lasting d.cache, cache := [] } (.slice none 0 0) (by rw [hw3]; exact set_main HD2.out.main 2 _) (World.ownsRow_nil _ _ _ _) (.inr rfl) rfl rfl rfl
      exact h3.join HT2.out (by rw [hw3]; exact (turn_set w2 b 2 _).mono (fun k e => by subst e; exact .inl HD.out.sb))
    obtain ⟨q0, q1, q2, q3, y0, y1, y2, y3⟩ := agg4 HX3.out
    obtain ⟨c0, c1, c2, c3, z0, z1, z2, z3⟩ := agg4 HY3.out
    rw [hw3] at q0 q1 q2 q3 y0 y1 y2 y3 c0 c1 c2 c3 z0 z1 z2 z3
    go_wp2
    rw [← hw3]
    refine bodyPost_ret (res_finish _ (w.heap.size + 1) _ ⟨4, s, dt, tg⟩ rfl (set4_heap HY3.out _ _ _ _)) rfl ?_
    have hR := lt_of_heap HY0.out
    have hF := HD3.out.1.own2 HD.out.lt HB0.out HT1.out HD3.out.2 (turn_set4 (Turn.refl (fun k => w.heap.size ≤ k ∧ k < w0.heap.size) w3) (w.heap.size + 1) ⟨by omega, by omega⟩ (.int .i64 4) (.int .i64 s) (.string dt) (.int .i64 tg))
    exact ⟨rfl, ⟨_, _, _, _, hF.1⟩, hF.2⟩

end Go.Proofs.Ytkfphmhnaelflaa.Nv
