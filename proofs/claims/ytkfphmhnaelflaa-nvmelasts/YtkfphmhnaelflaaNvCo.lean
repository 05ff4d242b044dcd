/-
  A command is completed; what a look tells; what waits. No condition.
-/
import Derived.Test.YtkfphmhnaelflaaNvFn
namespace Go.Proofs.Ytkfphmhnaelflaa.Nv
open Go.ChangeShapes Go.WideShapes Go.ChangeAt Go.RowKit Go.Proofs.Fa

variable {w : World} {S : Nat → Prop} {b : Nat} {d : Dev} {vl vc vw vk : Value}

/-- What a Look answers: the text, the error's number. -/
def lookN (d : Dev) (s : Int) : Int := if d.down = true then 3 else if 0 ≤ s ∧ s < d.lasting.length then 0 else 1
def lookT (d : Dev) (s : Int) : ByteArray := if lookN d s = 0 then findL d.lasting d.cache s else ⟨#[]⟩

set_option maxRecDepth 100000
set_option maxHeartbeats 4000000

theorem look_any (h : DevIn w S b d vl vc vw vk) (s : Int) (hcl : d.cache.length ≤ 1000000) (hll : d.lasting.length ≤ 100000) :
    Calls Try.prog 11 #[.pointer (some ⟨b, 0, none⟩), .int .i64 s] w fun e w' => e = .returned (.tuple #[.string (lookT d s), errV (lookN d s)]) ∧ Below w.heap.size w w' := by
  have HD : Hid (DevIn w S b d vl vc vw vk) := h
  clear h
  go_enter Try.func11, Try.ntmps11
  go_wp2_with fail
  refine (powered_any HD.out).mono ?_
  rintro e w1 ⟨rfl, rfl⟩
  cases hd : d.down
  case true =>
    have HL : lookN d s = 3 := by unfold lookN; rw [if_pos hd]
    have HT : lookT d s = ⟨#[]⟩ := by unfold lookT; rw [HL]; rfl
    rw [show errV (if true = true then 3 else 0) = .iface 52 (.int .i64 3) from rfl]
    go_wp2
    go_ret2
    exact ⟨by rw [HL, HT]; rfl, Below.refl _ _⟩
  case false =>
    rw [show errV (if false = true then 3 else 0) = .nilIface from rfl]
    go_wp2_with fail
    refine (has_any s HD.out).mono ?_
    rintro e w2 ⟨rfl, rfl⟩
    by_cases hs : 0 ≤ s ∧ s < d.lasting.length
    · have HL : lookN d s = 0 := by unfold lookN; rw [if_neg (by rw [hd]; decide), if_pos hs]
      have HT : lookT d s = findL d.lasting d.cache s := by unfold lookT; rw [if_pos HL]
      rw [show decide (0 ≤ s ∧ s < (d.lasting.length : Int)) = true by simpa using hs]
      go_wp2_with fail
      refine (find_any HD.out s hs hcl hll).mono ?_
      rintro e w3 ⟨rfl, hb⟩
      go_wp2
      go_ret2
      exact ⟨by rw [HL, HT]; rfl, hb⟩
    · have HL : lookN d s = 1 := by unfold lookN; rw [if_neg (by rw [hd]; decide), if_neg hs]
      have HT : lookT d s = ⟨#[]⟩ := by unfold lookT; rw [HL]; rfl
      rw [show decide (0 ≤ s ∧ s < (d.lasting.length : Int)) = false by simpa using hs]
      go_wp2
      go_ret2
      exact ⟨by rw [HL, HT]; rfl, Below.refl _ _⟩

theorem pending_any (h : DevIn w S b d vl vc vw vk) (hwl : d.waiting.length ≤ 1000000) :
    Calls Try.prog 13 #[.pointer (some ⟨b, 0, none⟩)] w fun e w' => ∃ v, e = .returned v ∧ w'.ownsRow w.heap.size 37 4 v d.waiting.length (ccells d.waiting) ∧ Below w.heap.size w w' := by
  have HD : Hid (DevIn w S b d vl vc vw vk) := h
  obtain ⟨aw, capw, hvw, _⟩ := row_slice h.wai
  have c3 : w.cell? ⟨b, 3, none⟩ = some (.slice aw d.waiting.length capw) := by rw [← hvw]; exact cell_of_heap h.main 3 _ rfl
  clear h
  go_enter Try.func13, Try.ntmps13
  go_wp2_with fail
  refine (clone_any _ d.waiting (by rw [← hvw]; exact HD.out.wai) (by omega)).mono ?_
  rintro e w1 ⟨v, rfl, hv, hb⟩
  go_wp2
  go_ret
  exact ⟨_, rfl, hv, hb⟩

theorem res_complete (tm : Array Value) (rb : Nat) (W : World) (c : Cmd) (er : Value) (h2 : tm[4]? = some (.pointer (some ⟨rb, 0, none⟩))) (h3 : tm[5]? = some er) (h : W.heap[rb]? = some (.cells #[.int .i64 c.kind, .int .i64 c.sector, .string c.data, .int .i64 c.tag] 37 (0, 0))) :
    (results Try.f10 tm).run Try.prog W = .ok (.tuple #[c.agg, er]) W := by
  obtain ⟨c0, c1, c2, c3, _⟩ := agg4 h
  clear h
  simp [results, Try.f10, go_sem, h2, h3, c0, c1, c2, c3, Cmd.agg]

theorem complete_any (i : Int) (h : DevIn w S b d vl vc vw vk) (ho : Ok d) (hkl : d.keep.length ≤ 1000000) :
    Calls Try.prog 10 #[.pointer (some ⟨b, 0, none⟩), .int .i64 i] w fun e w' => e = .returned (.tuple #[(completeF d i).2.1.agg, errV (completeF d i).2.2]) ∧ DevAt w' (Grow S w w') b (completeF d i).1 ∧ Turn S w w' := by
  have HD : Hid (DevIn w S b d vl vc vw vk) := h
  have HO : Hid (Ok d) := ho
  obtain ⟨w0, hw0⟩ : ∃ w0, w0 = w.alloc (Obj.cells #[.int .i64 0, .int .i64 0, .string ⟨#[]⟩, .int .i64 0] 37) := ⟨_, rfl⟩
  have HB0 : Hid (Below w.heap.size w w0) := by rw [hw0]; exact (Below.refl _ _).alloc (Nat.le_refl _) _
  have HY0 : Hid (w0.heap[w.heap.size]? = some (.cells #[.int .i64 0, .int .i64 0, .string ⟨#[]⟩, .int .i64 0] 37 (0, 0))) := by rw [hw0]; exact heap_alloc_new _ _
  have HD0 : Hid (DevIn w0 S b d vl vc vw vk) := h.below HB0.out
  clear h ho
  go_enter Try.func10, Try.ntmps10
  go_wp2_with fail
  rw [← hw0]
  clear hw0
  refine (powered_any HD0.out).mono ?_
  rintro e w1 ⟨rfl, rfl⟩
  obtain ⟨c0, c1, c2, c3, z0, z1, z2, z3⟩ := agg4 HY0.out
  cases hd : d.down
  case true =>
    have HC : Hid (completeF d i = (d, noCmd, 3)) := by show _ = _; unfold completeF; rw [if_pos hd]
    rw [show errV (if true = true then 3 else 0) = .iface 52 (.int .i64 3) from rfl]
    go_wp2
    refine bodyPost_ret (res_complete _ w.heap.size _ noCmd _ rfl rfl (set4_heap HY0.out _ _ _ _)) rfl ?_
    have hF := (HD0.out.rests (Below.refl _ _)).own2 HD.out.lt HB0.out (Turn.refl _ _) (Turn.refl _ _) (turn_set4 (Turn.refl (fun k => w.heap.size ≤ k ∧ k < w1.heap.size) w1) w.heap.size ⟨Nat.le_refl _, lt_of_heap HY0.out⟩ (.int .i64 0) (.int .i64 0) (.string ⟨#[]⟩) (.int .i64 0))
    exact ⟨by rw [HC.out]; rfl, by rw [HC.out]; exact ⟨_, _, _, _, hF.1⟩, hF.2⟩
  case false =>
    rw [show errV (if false = true then 3 else 0) = .nilIface from rfl]
    obtain ⟨aw, capw, hvw, _⟩ := row_slice HD0.out.wai
    have m3 : w1.cell? ⟨b, 3, none⟩ = some (.slice aw d.waiting.length capw) := by rw [← hvw]; exact cell_of_heap HD0.out.main 3 _ rfl
    by_cases hi : i < 0 ∨ (d.waiting.length : Int) ≤ i
    · have HC : Hid (completeF d i = (d, noCmd, 1)) := by show _ = _; unfold completeF; rw [if_neg (by rw [hd]; decide), if_pos hi]
      have hF := (HD0.out.rests (Below.refl _ _)).own2 HD.out.lt HB0.out (Turn.refl _ _) (Turn.refl _ _) (turn_set4 (Turn.refl (fun k => w.heap.size ≤ k ∧ k < w1.heap.size) w1) w.heap.size ⟨Nat.le_refl _, lt_of_heap HY0.out⟩ (.int .i64 0) (.int .i64 0) (.string ⟨#[]⟩) (.int .i64 0))
      have HF : Hid (DevAt _ (Grow S w _) b d ∧ Turn S w _) := ⟨⟨_, _, _, _, hF.1⟩, hF.2⟩
      clear hF
      by_cases h0 : i < 0
      · clear hi
        go_wp2
        refine bodyPost_ret (res_complete _ w.heap.size _ noCmd _ rfl rfl (set4_heap HY0.out _ _ _ _)) rfl ?_
        exact ⟨by rw [HC.out]; rfl, by rw [HC.out]; exact HF.out⟩
      · have hi' : (d.waiting.length : Int) ≤ i := by omega
        clear hi
        go_wp2
        refine bodyPost_ret (res_complete _ w.heap.size _ noCmd _ rfl rfl (set4_heap HY0.out _ _ _ _)) rfl ?_
        exact ⟨by rw [HC.out]; rfl, by rw [HC.out]; exact HF.out⟩
    · obtain ⟨j, hj⟩ : ∃ j : Nat, i = (j : Int) := ⟨i.toNat, by omega⟩
      subst hj
      have hjl : j < d.waiting.length := by omega
      have hi0 : ¬ ((j : Int) < 0) := by omega
      have hi1 : ¬ ((d.waiting.length : Int) ≤ (j : Int)) := by omega
      have HNI : Hid (¬ ((j : Int) < 0 ∨ (d.waiting.length : Int) ≤ (j : Int))) := hi
      clear hi
      go_wp2_with fail
      refine (fails_any HD0.out).mono ?_
      rintro e w2 ⟨rfl, hd2, ht2⟩
      have HD2 : Hid (DevIn w2 (Grow S w1 w2) b (tickF d) vl vc vw vk) := hd2
      have HT2 : Hid (Turn S w1 w2) := ht2
      have HY2 : Hid (w2.heap[w.heap.size]? = some (.cells #[.int .i64 0, .int .i64 0, .string ⟨#[]⟩, .int .i64 0] 37 (0, 0))) := (ht2.block _ (lt_of_heap HY0.out) (fun g => by have := HD.out.lt _ g; omega)).trans HY0.out
      have htk : (tickF d).lasting = d.lasting ∧ (tickF d).cache = d.cache ∧ (tickF d).waiting = d.waiting ∧ (tickF d).keep = d.keep ∧ (tickF d).down = d.down := by unfold tickF; split <;> exact ⟨rfl, rfl, rfl, rfl, rfl⟩
      have HOT : Hid (Ok (tickF d)) := HO.out.tick
      obtain ⟨t, ht⟩ : ∃ t, tickF d = t := ⟨_, rfl⟩
      have HTT : Hid (tickF d = t) := ht
      rw [ht] at htk HD2 HOT
      have HTK : Hid (t.lasting = d.lasting ∧ t.cache = d.cache ∧ t.waiting = d.waiting ∧ t.keep = d.keep ∧ t.down = d.down) := htk
      clear hd2 ht2 c0 c1 c2 c3 z0 z1 z2 z3 m3 ht htk
      cases hf : failsF d
      · have HC : Hid (completeF d j = ((finishF { t with waiting := d.waiting.eraseIdx j } d.waiting[j]).1, (finishF { t with waiting := d.waiting.eraseIdx j } d.waiting[j]).2, 0)) := by
          show _ = _
          unfold completeF
          rw [if_neg (by rw [hd]; decide), if_neg HNI.out, if_neg (by rw [hf]; decide), Int.toNat_natCast, List.getElem?_eq_getElem hjl, HTT.out]
          rfl
        have hRw := HD2.out.wai
        rw [HTK.out.2.2.1] at hRw
        obtain ⟨g, cap', he⟩ := row_some hRw (by omega)
        have hSwg : ∀ k, some g = some k → Grow S w1 w2 k := fun k e => HD2.out.sw k (by rw [he]; exact e)
        have HRW : Hid (w2.ownsRow 0 37 4 (.slice (some ⟨g, 0, none⟩) d.waiting.length cap') d.waiting.length (ccells d.waiting)) := by rw [← he]; exact hRw
        have HVW : Hid (vw = .slice (some ⟨g, 0, none⟩) d.waiting.length cap') := he
        have m3 : w2.cell? ⟨b, 3, none⟩ = some (.slice (some ⟨g, 0, none⟩) d.waiting.length cap') := by rw [← he]; exact cell_of_heap HD2.out.main 3 _ rfl
        obtain ⟨e0, e1, e2, e3⟩ := row_cmd HRW.out j hjl
        obtain ⟨cc, hck⟩ : ∃ cc, d.waiting[j] = cc := ⟨_, rfl⟩
        have HCC : Hid (1 ≤ cc.kind ∧ cc.kind ≤ 4 ∧ 0 ≤ cc.sector ∧ cc.sector < d.lasting.length) := by rw [← hck]; exact HO.out.wai _ (List.getElem_mem hjl)
        rw [hck] at e0 e1 e2 e3 HC
        have HWL : Hid (d.waiting.length ≤ 1000) := HO.out.wl
        obtain ⟨l, hl⟩ : ∃ l, d.waiting = l := ⟨_, rfl⟩
        rw [hl] at HC HRW HVW m3 hjl HWL hi1
        clear hRw he hck hvw HNI
        obtain ⟨xk, xs, xd, xt⟩ := cc
        obtain ⟨w3, hw3⟩ : ∃ w3, w3 = w2.alloc (Obj.cells #[.int .i64 xk, .int .i64 xs, .string xd, .int .i64 xt] 37) := ⟨_, rfl⟩
        have HB3 : Hid (Below w2.heap.size w2 w3) := by rw [hw3]; exact (Below.refl _ _).alloc (Nat.le_refl _) _
        have HX3 : Hid (w3.heap[w2.heap.size]? = some (.cells #[.int .i64 xk, .int .i64 xs, .string xd, .int .i64 xt] 37 (0, 0))) := by rw [hw3]; exact heap_alloc_new _ _
        have m3' : w3.cell? ⟨b, 3, none⟩ = some (.slice (some ⟨g, 0, none⟩) l.length cap') := (HB3.out.cell (p := ⟨b, 3, none⟩) (lt_of_heap HD2.out.main)).trans m3
        rw [hw3] at m3'
        dsimp only at e0 e1 e2 e3
        have HW1 : Hid (wrap64 ((j : Int) + 1) = (j : Int) + 1) := by show _ = _; unfold wrap64; have := HWL.out; omega
        go_wp2_with fail
        rw [HW1.out, ← hw3]
        clear hw3 m3' m3 e0 e1 e2 e3
        refine (delete_any _ l j hjl (by have := HWL.out; omega) (row_below HRW.out HB3.out)).mono ?_
        rintro e w4 ⟨v4, rfl, ho4, hob, ht4, hz4⟩
        have hbw2 : b < w2.heap.size := lt_of_heap HD2.out.main
        have hgb : g ≠ b := row_ne HRW.out HD2.out.main (by decide) g rfl
        have hg2 : g < w2.heap.size := row_lt HRW.out g rfl
        have HX4 : Hid (w4.heap[w2.heap.size]? = some (.cells #[.int .i64 xk, .int .i64 xs, .string xd, .int .i64 xt] 37 (0, 0))) := (ht4.block _ (lt_of_heap HX3.out) (fun e => by have e' : g = w2.heap.size := Option.some.inj e; omega)).trans HX3.out
        have HM4 : Hid (w4.heap[b]? = some (.cells (devCells t vl vc vw vk) 56 (0, 0))) := (ht4.block _ (Nat.lt_of_lt_of_le hbw2 HB3.out.size) (fun e => by have e' : g = b := Option.some.inj e; exact hgb e')).trans ((HB3.out.block _ hbw2).trans HD2.out.main)
        have n3 : w4.cell? ⟨b, 3, none⟩ = some (.slice (some ⟨g, 0, none⟩) l.length cap') := by rw [← HVW.out]; exact cell_of_heap HM4.out 3 _ rfl
        have f3 : w4.frozen? ⟨b, 3, none⟩ = false := free_of_heap HM4.out 3
        obtain ⟨w5, hw5⟩ : ∃ w5, w5 = w4.setCell ⟨b, 3, none⟩ v4 := ⟨_, rfl⟩
        have HX5 : Hid (w5.heap[w2.heap.size]? = some (.cells #[.int .i64 xk, .int .i64 xs, .string xd, .int .i64 xt] 37 (0, 0))) := by rw [hw5]; exact (heap_setCell_other w4 ⟨b, 3, none⟩ _ _ (by show w2.heap.size ≠ b; omega)).trans HX4.out
        have HT5 : Hid (Turn (fun k => k = b ∨ vw.ownBlock = some k) w3 w5) := by rw [hw5]; exact (ht4.mono (fun k e => .inr (by rw [HVW.out]; exact e))).setCell b 3 v4 (.inl (.inl rfl))
        have HD5 : Hid (DevIn w5 (Grow (Grow S w1 w2) w3 w5) b { t with waiting := l.eraseIdx j } vl vc v4 vk) := by
          have hD3 := HD2.out.below HB3.out
          refine hD3.waits HT5.out { t with waiting := l.eraseIdx j } v4 (by rw [hw5]; exact set_main HM4.out 3 v4) (by rw [hw5]; exact row_turn ho4 (turn_set w4 b 3 v4) (fun q e => by intro e2; subst e2; rw [hob] at e; cases e; exact hgb rfl)) (.inl (.inl (by rw [hob, HVW.out]))) rfl rfl rfl
        have HS5 : Hid (Turn (Grow S w1 w2) w3 w5) := HT5.out.mono (fun k e => by rcases e with rfl | e; exact HD2.out.sb; exact HD2.out.sw k e)
        obtain ⟨q0, q1, q2, q3, y0, y1, y2, y3⟩ := agg4 HX5.out
        rw [hw5] at q0 q1 q2 q3 y0 y1 y2 y3
        obtain ⟨a4, cap4, hv4, _⟩ := row_slice ho4
        clear ho4 hob ht4 hz4
        subst hv4
        go_wp2_with fail
        rw [← hw5]
        clear hw5 q0 q1 q2 q3 y0 y1 y2 y3 n3 f3
        refine (finish_any ⟨xk, xs, xd, xt⟩ HD5.out (by show t.cache.length ≤ 1000000; rw [HTK.out.2.1]; exact HO.out.cl) (by show t.lasting.length ≤ 100000; rw [HTK.out.1]; exact HO.out.las.2) (by show ∀ c ∈ t.cache, 0 ≤ c.sector ∧ c.sector < (t.lasting.length : Int); rw [HTK.out.1, HTK.out.2.1]; exact HO.out.cac) ⟨HCC.out.1, HCC.out.2.1⟩ (by show 0 ≤ xs ∧ xs < (t.lasting.length : Int); rw [HTK.out.1]; exact HCC.out.2.2)).mono ?_
        rintro e w6 ⟨rfl, ⟨vl6, vc6, vw6, vk6, hd6⟩, ht6⟩
        have hJ1 := hd6.join HS5.out ht6
        have hJ2 := hJ1.1.chain HB3.out
        have hJ := hJ2.1.join HT2.out (hJ2.2 hJ1.2)
        have HY6 : Hid (w6.heap[w.heap.size]? = some (.cells #[.int .i64 0, .int .i64 0, .string ⟨#[]⟩, .int .i64 0] 37 (0, 0))) := (hJ.2.block _ (lt_of_heap HY0.out) (fun g => by have := HD.out.lt _ g; omega)).trans HY0.out
        rw [show Cmd.agg (finishF { t with waiting := l.eraseIdx j } ⟨xk, xs, xd, xt⟩).2 = .agg #[.int .i64 (finishF { t with waiting := l.eraseIdx j } ⟨xk, xs, xd, xt⟩).2.kind, .int .i64 (finishF { t with waiting := l.eraseIdx j } ⟨xk, xs, xd, xt⟩).2.sector, .string (finishF { t with waiting := l.eraseIdx j } ⟨xk, xs, xd, xt⟩).2.data, .int .i64 (finishF { t with waiting := l.eraseIdx j } ⟨xk, xs, xd, xt⟩).2.tag] from rfl]
        generalize hff : finishF { t with waiting := l.eraseIdx j } ⟨xk, xs, xd, xt⟩ = ff at *
        have hF := hJ.1.own2 HD.out.lt HB0.out (Turn.refl _ _) hJ.2 (turn_set4 (Turn.refl (fun k => w.heap.size ≤ k ∧ k < w1.heap.size) w6) w.heap.size ⟨Nat.le_refl _, lt_of_heap HY0.out⟩ (.int .i64 ff.2.kind) (.int .i64 ff.2.sector) (.string ff.2.data) (.int .i64 ff.2.tag))
        have HF : Hid (DevAt _ (Grow S w _) b ff.1 ∧ Turn S w _) := ⟨⟨_, _, _, _, hF.1⟩, hF.2⟩
        clear hF hJ hJ1 hJ2 hd6 ht6 hff
        obtain ⟨c0, c1, c2, c3, z0, z1, z2, z3⟩ := agg4 HY6.out
        obtain ⟨f1, f2⟩ := ff
        obtain ⟨fk, fs, fd, ft⟩ := f2
        dsimp only at *
        go_wp2
        refine bodyPost_ret (res_complete _ w.heap.size _ ⟨fk, fs, fd, ft⟩ _ rfl rfl (set4_heap HY6.out _ _ _ _)) rfl ?_
        exact ⟨by rw [HC.out]; rfl, by rw [HC.out]; exact HF.out⟩
      · have HC : Hid (completeF d j = (crashF t d.keep, noCmd, 3)) := by show _ = _; unfold completeF; rw [if_neg (by rw [hd]; decide), if_neg HNI.out, if_pos hf, HTT.out]
        have hkl2 : t.keep.length ≤ 1000000 := by rw [HTK.out.2.2.2.1]; exact hkl
        obtain ⟨ak, capk, hvk, _⟩ := row_slice HD2.out.kee
        have m6 : w2.cell? ⟨b, 6, none⟩ = some (.slice ak t.keep.length capk) := by rw [← hvk]; exact cell_of_heap HD2.out.main 6 _ rfl
        have HK2 : Hid (w2.ownsRow 0 3 1 (.slice ak t.keep.length capk) t.keep.length (icells t.keep)) := by rw [← hvk]; exact HD2.out.kee
        clear hvk
        go_wp2_with fail
        refine (crash_any HD2.out HOT.out (.slice ak t.keep.length capk) t.keep HK2.out hkl2).mono ?_
        rintro e w3 ⟨⟨u, rfl⟩, ⟨vl3, vc3, vw3, vk3, hd3⟩, ht3⟩
        have hJ := hd3.join HT2.out ht3
        have HY3 : Hid (w3.heap[w.heap.size]? = some (.cells #[.int .i64 0, .int .i64 0, .string ⟨#[]⟩, .int .i64 0] 37 (0, 0))) := (hJ.2.block _ (lt_of_heap HY0.out) (fun g => by have := HD.out.lt _ g; omega)).trans HY0.out
        have hF := hJ.1.own2 HD.out.lt HB0.out (Turn.refl _ _) hJ.2 (turn_set4 (Turn.refl (fun k => w.heap.size ≤ k ∧ k < w1.heap.size) w3) w.heap.size ⟨Nat.le_refl _, lt_of_heap HY0.out⟩ (.int .i64 0) (.int .i64 0) (.string ⟨#[]⟩) (.int .i64 0))
        rw [HTK.out.2.2.2.1] at hF
        have HF : Hid (DevAt _ (Grow S w _) b (crashF t d.keep) ∧ Turn S w _) := ⟨⟨_, _, _, _, hF.1⟩, hF.2⟩
        clear hF hJ hd3 ht3 m6
        obtain ⟨c0, c1, c2, c3, z0, z1, z2, z3⟩ := agg4 HY3.out
        go_wp2
        refine bodyPost_ret (res_complete _ w.heap.size _ noCmd _ rfl rfl (set4_heap HY3.out _ _ _ _)) rfl ?_
        exact ⟨by rw [HC.out]; rfl, by rw [HC.out]; exact HF.out⟩

end Go.Proofs.Ytkfphmhnaelflaa.Nv
