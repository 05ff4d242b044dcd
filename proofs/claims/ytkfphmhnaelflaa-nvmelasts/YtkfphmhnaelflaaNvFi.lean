/-
  What a read of a sector finds; whether the power fails at a completion. No condition.
-/
import Derived.Test.YtkfphmhnaelflaaNvB
import Derived.Deep.RegionWith
namespace Go.Proofs.Ytkfphmhnaelflaa.Nv
open Go.ChangeShapes Go.WideShapes Go.ChangeAt Go.RowKit Go.Proofs.Fa Go.Shelf
attribute [local go_sem] Oper.semAt_some

variable {w : World} {S : Nat → Prop} {b : Nat} {d : Dev} {vl vc vw vk : Value}

set_option maxRecDepth 100000
set_option maxHeartbeats 2000000

theorem fails_any (h : DevIn w S b d vl vc vw vk) : Calls Try.prog 23 #[.pointer (some ⟨b, 0, none⟩)] w fun e w' => e = .returned (.bool (failsF d)) ∧ DevIn w' (Grow S w w') b (tickF d) vl vc vw vk ∧ Turn S w w' := by
  have HD : Hid (DevIn w S b d vl vc vw vk) := h
  have c5 : w.cell? ⟨b, 5, none⟩ = some (.int .i64 d.failAt) := cell_of_heap h.main 5 _ rfl
  have f5 := free_of_heap h.main 5
  clear h
  by_cases h0 : d.failAt = 0
  · have e1 : failsF d = false := by simp [failsF, h0]
    have e2 : tickF d = d := by simp [tickF, h0]
    rw [h0] at c5
    rw [e1, e2]
    clear e1 e2 h0
    go_enter Try.func23, Try.ntmps23
    go_wp2
    go_ret
    exact ⟨rfl, HD.out.stays (Below.refl _ _), Turn.refl _ _⟩
  · have hb : (d.failAt == 0) = false := by simpa using h0
    have e1 : failsF d = (wrap64 (d.failAt - 1) == 0) := by simp [failsF, h0]
    have HF : Hid (DevIn (w.setCell ⟨b, 5, none⟩ (.int .i64 (wrap64 (d.failAt - 1)))) (Grow S w (w.setCell ⟨b, 5, none⟩ (.int .i64 (wrap64 (d.failAt - 1))))) b (tickF d) vl vc vw vk ∧ Turn S w (w.setCell ⟨b, 5, none⟩ (.int .i64 (wrap64 (d.failAt - 1))))) := by
      have e2 : tickF d = { d with failAt := wrap64 (d.failAt - 1) } := by simp [tickF, h0]
      refine ⟨?_, (turn_set w b 5 _).mono (fun k e => by subst e; exact HD.out.sb)⟩
      rw [e2]
      exact HD.out.flags (turn_set w b 5 _) _ (set_main HD.out.main 5 _) rfl rfl rfl rfl
    rw [e1]
    clear e1 h0
    generalize d.failAt = fa at *
    go_enter Try.func23, Try.ntmps23
    go_wp2
    go_ret
    exact ⟨rfl, HF.out.1, HF.out.2⟩

/-- A code that ends as it should: no panic's post is asked. -/
def onlyN (Q : Exit → Act → World → Prop) : Exit → Act → World → Prop
  | .normal, a, w => Q .normal a w
  | _, _, _ => False
theorem wpIn_onlyN {F : Fence} {n : Nat} {P : Program} {c : Code} {Q : Exit → Act → World → Prop} {a : Act} {w : World} (h : c.wpIn F n P (onlyN Q) a w) : c.wpIn F n P Q a w :=
  wpIn_mono h fun e _ _ hq => match e, hq with
    | .normal, hq => hq
theorem box_own {β : Type} (C k : Nat) (c : β → Array Value) (t : TypeId) (ht : t ≠ 44) : OwnM M C (fun s W => W.heap[k]? = some (.cells (c s) t (0, 0))) := by
  intro s W W' row h hg hr
  refine (hg.block k (lt_of_heap h) ?_).trans h
  intro e
  obtain ⟨_, o, h2, h3⟩ := hr k e.symm
  rw [h] at h2
  cases h2
  rcases h3 with h3 | ⟨c', h3⟩
  · cases h3
  · injection h3 with _ h4; exact ht h4
theorem not_M {c : Array Value} {t : TypeId} {m : Nat × Nat} (ht : t ≠ 44) : ¬ M (.cells c t m) := by
  rintro (h | ⟨c', h⟩)
  · cases h
  · cases h; exact ht rfl
theorem box_set {W : World} {k : Nat} {v : Value} {t : TypeId} (h : W.heap[k]? = some (.cells #[v] t (0, 0))) (u : Value) : (W.setCell ⟨k, 0, none⟩ u).heap[k]? = some (.cells #[u] t (0, 0)) := heap_setCell_same W k 0 #[v] t u h
theorem keepsM_set {W : World} {k : Nat} {v : Value} {t : TypeId} (h : W.heap[k]? = some (.cells #[v] t (0, 0))) (ht : t ≠ 44) (u : Value) : KeepsM M W (W.setCell ⟨k, 0, none⟩ u) :=
  ⟨by simp, fun i o hk hm => (heap_setCell_other W ⟨k, 0, none⟩ i _ (fun e => by
    have e' : i = k := e
    subst e'
    rw [h] at hk
    cases hk
    exact not_M ht hm)).trans hk⟩

theorem find_any (h : DevIn w S b d vl vc vw vk) (s : Int) (hs : 0 ≤ s ∧ s < d.lasting.length) (hcl : d.cache.length ≤ 1000000) (hll : d.lasting.length ≤ 100000) :
    Calls Try.prog 26 #[.pointer (some ⟨b, 0, none⟩), .int .i64 s] w fun e w' => e = .returned (.string (findL d.lasting d.cache s)) ∧ Below w.heap.size w w' := by
  have HD : Hid (DevIn w S b d vl vc vw vk) := h
  have HS : Hid (0 ≤ s ∧ s < d.lasting.length) := hs
  obtain ⟨ac, capc, hvc, _⟩ := row_slice h.cac
  have c2 : w.cell? ⟨b, 2, none⟩ = some (.slice ac d.cache.length capc) := by rw [← hvc]; exact cell_of_heap h.main 2 _ rfl
  have hbw : b < w.heap.size := lt_of_heap h.main
  obtain ⟨w2, hw2⟩ : ∃ w2, w2 = (w.alloc (Obj.cells #[.int .i64 s] 3)).alloc (Obj.cells #[.string ⟨#[]⟩] 9) := ⟨_, rfl⟩
  have HB2 : Below w.heap.size w w2 := by rw [hw2]; exact ((Below.refl _ _).alloc (Nat.le_refl _) _).alloc (by simp) _
  have c2' : w2.cell? ⟨b, 2, none⟩ = some (.slice ac d.cache.length capc) := (HB2.cell (p := ⟨b, 2, none⟩) hbw).trans c2
  rw [hw2] at c2'
  clear h hs
  refine (callsIn_wide (n := 9)).1 ?_
  refine callsIn_of_wp_marks Try.func26 rfl trivial ?_ rfl
  simp only [Try.ntmps26, List.size_toArray, List.length_cons, List.length_nil, Nat.reduceAdd, Nat.reduceSub, Array.replicate_succ, Array.replicate_zero, List.push_toArray, List.append_toArray, List.nil_append, List.cons_append]
  gi_wp2_with fail
  refine ⟨trivial, ?_⟩
  refine (callsIn_wide.2 (back_any _ _ _ _)).mono ?_
  rintro e w' ⟨rfl, rfl⟩
  obtain ⟨w3, hw3⟩ : ∃ w3, w3 = ((w.alloc (Obj.cells #[.int .i64 s] 3)).alloc (Obj.cells #[.string ⟨#[]⟩] 9)).alloc (Obj.cells #[.slice ac d.cache.length capc] 44) := ⟨_, rfl⟩
  have HB3 : Below w.heap.size w w3 := by rw [hw3]; exact (((Below.refl _ _).alloc (Nat.le_refl _) _).alloc (by simp) _).alloc (by simp; omega) _
  have HI3 : w3.heap[w.heap.size]? = some (.cells #[.int .i64 s] 3 (0, 0)) := by rw [hw3]; exact ((Below.heap_alloc _ _ _ (by simp; omega)).trans (Below.heap_alloc _ _ _ (by simp))).trans (heap_alloc_new w _)
  have HR3 : w3.heap[w.heap.size + 1]? = some (.cells #[.string ⟨#[]⟩] 9 (0, 0)) := by
    rw [hw3]
    have := heap_alloc_new (w.alloc (Obj.cells #[.int .i64 s] 3)) (Obj.cells #[.string ⟨#[]⟩] 9)
    rw [World.size_alloc] at this
    exact (Below.heap_alloc _ _ _ (by simp)).trans this
  have HS3 : w3.heap[w.heap.size + 1 + 1]? = some (.cells #[.slice ac d.cache.length capc] 44 (0, 0)) := by
    rw [hw3]
    have := heap_alloc_new ((w.alloc (Obj.cells #[.int .i64 s] 3)).alloc (Obj.cells #[.string ⟨#[]⟩] 9)) (Obj.cells #[.slice ac d.cache.length capc] 44)
    rw [World.size_alloc, World.size_alloc] at this
    exact this
  gi_wp2_with fail
  rw [← hw3]
  clear hw3 hw2 HB2 c2' w2
  have hz3 : w.heap.size + 1 + 1 < w3.heap.size := lt_of_heap HS3
  have HSEQ := back1_seq (9 - 1) w w3 ac capc d.cache (w.heap.size + 1 + 1) hcl (by rw [← hvc]; exact HD.out.cac) HB3 HS3
  refine rangeA (α := Nat) rfl (by decide) (gf := 46) (lb := #[.pointer (some ⟨w.heap.size + 1 + 1, 0, none⟩)]) rfl trivial (enters_of Try.func46 (by kernel_rfl) rfl) M_other
    HSEQ (by omega) (Below.refl _ _) (fun _ => rfl)
    (fun pre W => (((∀ y ∈ pre, (cmdAt d.cache y).sector ≠ s) ∧ W.heap[w.heap.size]? = some (.cells #[.int .i64 s] 3 (0, 0))) ∧ W.heap[w.heap.size + 1]? = some (.cells #[.string ⟨#[]⟩] 9 (0, 0))) ∧ Below w.heap.size w W)
    (fun c _ W => (c = .ret ∧ W.heap[w.heap.size + 1]? = some (.cells #[.string (findL d.lasting d.cache s)] 9 (0, 0))) ∧ Below w.heap.size w W)
    (OwnM.and (OwnM.and (OwnM.and ownM_true (box_own _ _ (fun (_ : List Nat) => #[.int .i64 s]) 3 (by decide))) (box_own _ _ (fun (_ : List Nat) => #[.string ⟨#[]⟩]) 9 (by decide))) (ownM_below (Nat.le_refl _) (by omega))) (fun c => OwnM.and (OwnM.and ownM_true (box_own _ _ (fun (_ : List Nat) => #[.string (findL d.lasting d.cache s)]) 9 (by decide))) (ownM_below (Nat.le_refl _) (by omega))) ⟨⟨⟨fun _ h => (by cases h), HI3⟩, HR3⟩, HB3⟩
    (fun x => Obj.cells #[.int .i64 (cmdAt d.cache x).kind, .int .i64 (cmdAt d.cache x).sector, .string (cmdAt d.cache x).data, .int .i64 (cmdAt d.cache x).tag] 37)
    (fun x W => { tmps := #[.pointer (some ⟨b, 0, none⟩), .int .i64 s, undef, .pointer (some ⟨w.heap.size, 0, none⟩), .pointer (some ⟨w.heap.size + 1, 0, none⟩), undef, .pointer (some ⟨W.heap.size, 0, none⟩), .pointer (some ⟨b, 0, none⟩), .pointer (some ⟨b, 0, none⟩), .pointer (some ⟨b, 2, none⟩), .slice ac d.cache.length capc, .func (.func 46) #[] #[.pointer (some ⟨w.heap.size + 1 + 1, 0, none⟩)], .int .i64 x, (cmdAt d.cache x).agg, undef, undef, undef, undef, undef, undef, undef, undef, undef, undef, undef, undef, undef], defers := [] }) ?assign ?body ?done ?stop
  case assign =>
    intro lp x W K hK
    simp only [encB]
    generalize cmdAt d.cache x = c at *
    obtain ⟨xk, xs, xd, xt⟩ := c
    dsimp only [Cmd.agg] at hK ⊢
    gi_wp2
    exact hK
  case body =>
    rintro lp pre x W0 W ⟨⟨⟨hn, hi⟩, hr⟩, hb⟩ ho hz hsp
    have HN : Hid (∀ y ∈ pre, (cmdAt d.cache y).sector ≠ s) := hn
    have HI : Hid (W.heap[w.heap.size]? = _) := hi
    have HR : Hid (W.heap[w.heap.size + 1]? = _) := hr
    have HB : Hid (Below w.heap.size w W) := hb
    have HSP : Hid (pre ++ [x] <+: downL d.cache.length) := hsp
    obtain ⟨q0, q1, q2, q3, y0, y1, y2, y3⟩ := agg4 ho
    have ci := cell_of_heap hi 0 _ rfl
    have cr := cell_of_heap hr 0 _ rfl
    have fr := free_of_heap hr 0
    clear hn hi hr hb hsp ho HSEQ HI3 HR3 HS3 HB3
    by_cases hx : (cmdAt d.cache x).sector = s
    · have HF : Hid (findL d.lasting d.cache s = (cmdAt d.cache x).data) := find_hit HSP.out HN.out hx
      have hx2 : ((cmdAt d.cache x).sector == s) = true := by simpa using hx
      clear hx
      generalize cmdAt d.cache x = c at *
      obtain ⟨xk, xs, xd, xt⟩ := c
      dsimp only [Cmd.agg] at *
      gi_wp2
      refine ⟨keepsM_set HR.out (by decide) _, ⟨rfl, ?_⟩, HB.out.setCell (p := ⟨w.heap.size + 1, 0, none⟩) (Nat.le_succ _) _⟩
      rw [HF.out]
      exact box_set HR.out _
    · have HN2 : Hid (∀ y ∈ pre ++ [x], (cmdAt d.cache y).sector ≠ s) := by
        intro y hy
        rcases List.mem_append.1 hy with hy | hy
        · exact HN.out y hy
        · simp only [List.mem_cons, List.not_mem_nil, or_false] at hy
          subst hy
          exact hx
      have hx2 : ((cmdAt d.cache x).sector == s) = false := by simpa using hx
      clear hx
      obtain ⟨c, hc⟩ : ∃ c, cmdAt d.cache x = c := ⟨_, rfl⟩
      rw [hc] at q0 q1 q2 q3 hx2 ⊢
      clear hc
      obtain ⟨xk, xs, xd, xt⟩ := c
      dsimp only [Cmd.agg] at *
      gi_wp2
      exact ⟨KeepsM.refl _ _, Below.refl _ _, ⟨⟨HN2.out, HI.out⟩, HR.out⟩, HB.out⟩
  case done =>
    rintro D xs W hD hS ⟨⟨⟨hn, hi⟩, hr⟩, hb⟩ hK
    subst hS
    have HE0 : findL d.lasting d.cache s = _ := find_miss hn
    have HI : Hid (W.heap[w.heap.size]? = _) := hi
    have HR : Hid (W.heap[w.heap.size + 1]? = _) := hr
    have HB : Hid (Below w.heap.size w W) := hb
    have HK : Hid (W.heap[D]? = some (.deferred (some []))) := hK
    have ci := cell_of_heap hi 0 _ rfl
    have cr := cell_of_heap hr 0 _ rfl
    have fr := free_of_heap hr 0
    have hDW := HD.out.below hb
    obtain ⟨j, hj⟩ : ∃ j : Nat, s = (j : Int) := ⟨s.toNat, by have := HS.out.1; omega⟩
    subst hj
    have hjl : j < d.lasting.length := by have := HS.out.2; omega
    obtain ⟨gl, capl, hvl⟩ := row_some hDW.las (by omega)
    have m1 : W.cell? ⟨b, 1, none⟩ = some (.slice (some ⟨gl, 0, none⟩) d.lasting.length capl) := by rw [← hvl]; exact cell_of_heap hDW.main 1 _ rfl
    have x1 : W.cell? ⟨gl, j, none⟩ = some (.string d.lasting[j]) := row_str (by have := hDW.las; rw [hvl] at this; exact this) j hjl
    rw [show (d.lasting[((j : Nat) : Int).toNat]?).getD ⟨#[]⟩ = d.lasting[j] by rw [Int.toNat_natCast, List.getElem?_eq_getElem hjl]; rfl] at HE0
    obtain ⟨dj, hdj⟩ : ∃ dj, d.lasting[j] = dj := ⟨_, rfl⟩
    rw [hdj] at HE0 x1
    have HE : Hid (findL d.lasting d.cache j = dj) := HE0
    obtain ⟨nl, hnl⟩ : ∃ nl, d.lasting.length = nl := ⟨_, rfl⟩
    rw [hnl] at m1 hjl
    clear HE0 hdj hnl
    clear hn hi hr hb hK HSEQ HI3 HR3 HS3 HB3 hDW hvl
    gi_wp2
    refine wpIn_onlyN ?_
    refine wpIn_wide.2 ?_
    go_region
    dsimp only [onlyN]
    have hK' : (W.setCell ⟨w.heap.size + 1, 0, none⟩ (.string dj)).drew.heap[D]? = some (.deferred (some [])) := (heap_setCell_other W ⟨w.heap.size + 1, 0, none⟩ D _ (by show D ≠ w.heap.size + 1; omega)).trans HK.out
    gi_wp2
    refine ⟨by simp, .inl ⟨_, _, rfl, run_takeDeferred hK', ?_⟩⟩
    have hh : ((W.setCell ⟨w.heap.size + 1, 0, none⟩ (.string dj)).drew.putObj D (.deferred none)).heap[w.heap.size + 1]? = some (.cells #[.string dj] 9 (0, 0)) := (World.putObj_heap_other (by omega)).trans (box_set HR.out _)
    have hc5 := cell_of_heap hh 0 _ rfl
    refine ⟨.string dj, ?_, by rw [HE.out], (HB.out.setCell (p := ⟨w.heap.size + 1, 0, none⟩) (Nat.le_succ _) _).drew.trans (belowK_b (w := w) (Nat.le_refl _) _ D _ _ (by omega) hK' rfl rfl)⟩
    simp [results, Try.f26, go_sem, hc5]
  case stop =>
    rintro D c pre W hD hpre ⟨⟨rfl, hr⟩, hb⟩ hK
    have hD1 : w.heap.size + 1 + 1 ≤ D := by omega
    gi_wp2
    refine ⟨by simp, .inl ⟨_, _, rfl, run_takeDeferred hK, ?_⟩⟩
    have hh : (W.putObj D (.deferred none)).heap[w.heap.size + 1]? = some (.cells #[.string (findL d.lasting d.cache s)] 9 (0, 0)) := (World.putObj_heap_other (by omega)).trans hr
    have hc5 := cell_of_heap hh 0 _ rfl
    refine ⟨.string (findL d.lasting d.cache s), ?_, rfl, hb.trans (belowK_b (w := w) (Nat.le_refl _) _ D _ _ (by omega) hK rfl rfl)⟩
    simp [results, Try.f26, go_sem, hc5]

end Go.Proofs.Ytkfphmhnaelflaa.Nv
