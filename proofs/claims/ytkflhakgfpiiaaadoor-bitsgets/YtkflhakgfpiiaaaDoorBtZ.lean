/-
  How many numbers are free. No condition.
-/
import Derived.Test.YtkflhakgfpiiaaaDoorBtR
import Derived.Deep.RegionWith
namespace Go.Proofs.YtkflhakgfpiiaaaDoor.Bt
open Go.ChangeShapes Go.WideShapes Go.ChangeAt Go.RowKit Go.Proofs.Fa Go.Shelf
attribute [local go_sem] Oper.semAt_some

/-- One int cell of the caller's. -/
def IntAt (W : World) (b : Nat) (x : Int) : Prop := W.heap[b]? = some (.cells #[.int .i64 x] 3 (0, 0))
/-- A code that ends as it should: no panic's post is asked. -/
def onlyN (Q : Exit → Act → World → Prop) : Exit → Act → World → Prop
  | .normal, a, w => Q .normal a w
  | _, _, _ => False
theorem wpIn_onlyN {F : Fence} {n : Nat} {P : Program} {c : Code} {Q : Exit → Act → World → Prop} {a : Act} {w : World} (h : c.wpIn F n P (onlyN Q) a w) : c.wpIn F n P Q a w :=
  wpIn_mono h fun e _ _ hq => match e, hq with
    | .normal, hq => hq
theorem not_M {o : Obj} {v : Value} (h : o = .cells #[v] 3 (0, 0)) : ¬ M o := by
  rintro (h1 | ⟨u, h1⟩)
  · rw [h] at h1; cases h1
  · rw [h] at h1; simp at h1
theorem intAt_own {β : Type} (C b : Nat) (f : β → Int) : OwnM M C (fun s W => IntAt W b (f s)) := by
  intro s W W' row h hg hr
  refine (hg.block b (lt_of_heap h) (fun e => ?_)).trans h
  obtain ⟨_, o, h2, h3⟩ := hr b e.symm
  rw [h] at h2
  cases h2
  exact not_M rfl h3
theorem keepsM_set {W : World} {b : Nat} {x : Int} (h : IntAt W b x) (y : Int) : KeepsM M W (W.setCell ⟨b, 0, none⟩ (.int .i64 y)) :=
  ⟨by simp, fun k o hk hm => (heap_setCell_other W ⟨b, 0, none⟩ k _ (fun e => by
    have e' : k = b := e
    subst e'
    rw [h] at hk
    cases hk
    exact not_M rfl hm)).trans hk⟩
theorem keepsM_below {W W' : World} (h : Below W.heap.size W W') : KeepsM M W W' := ⟨h.size, fun k _ hk _ => (h.block k (lt_of_heap hk)).trans hk⟩

set_option maxRecDepth 100000
set_option maxHeartbeats 2000000

theorem size_any (v : Value) (n : Nat) (B : Nat → Nat) (w : World) (h : SetV w v n B) :
    Calls Tryd.prog 24 #[v] w fun r w' => r = .returned (.tuple #[.int .i64 n, .int .i64 (cnt B n 0)]) ∧ Below w.heap.size w w' := by
  have hv : v = .pointer none ∨ ∃ b, v = .pointer (some ⟨b, 0, none⟩) := by
    rcases h with ⟨rfl, _⟩ | ⟨b, rfl, _⟩
    · exact .inl rfl
    · exact .inr ⟨b, rfl⟩
  have hruns := fun w => runs_any v 0 w hv
  have HV : Hid (SetV w v n B) := h
  clear h
  refine (callsIn_wide (n := 9)).1 ?_
  refine callsIn_of_wp_marks Tryd.func24 rfl trivial ?_ rfl
  simp only [Tryd.ntmps24, List.size_toArray, List.length_cons, List.length_nil, Nat.reduceAdd, Nat.reduceSub, Array.replicate_succ, Array.replicate_zero, List.push_toArray, List.append_toArray, List.nil_append, List.cons_append]
  clear hv
  gi_wp2_with fail
  refine ⟨trivial, ?_⟩
  refine (callsIn_wide.2 (hruns _)).mono ?_
  rintro e w' ⟨rfl, rfl⟩
  clear hruns
  have hmx := HV.out.max
  obtain ⟨w3, hw3⟩ : ∃ w3, w3 = ((w.alloc (Obj.cells #[.int .i64 0] 3)).alloc (Obj.cells #[v] 24)).alloc (Obj.cells #[.int .i64 0] 3) := ⟨_, rfl⟩
  have HB3 : Below w.heap.size w w3 := by rw [hw3]; exact (((Below.refl _ _).alloc (Nat.le_refl _) _).alloc (by simp) _).alloc (by simp; omega) _
  have HI3 : IntAt w3 w.heap.size 0 := by rw [hw3]; exact ((Below.heap_alloc _ _ _ (by simp; omega)).trans (Below.heap_alloc _ _ _ (by simp))).trans (heap_alloc_new w _)
  have HS3 : w3.heap[w.heap.size + 1]? = some (.cells #[v] 24 (0, 0)) := by
    rw [hw3]
    have := heap_alloc_new (w.alloc (Obj.cells #[.int .i64 0] 3)) (Obj.cells #[v] 24)
    rw [World.size_alloc] at this
    exact (Below.heap_alloc _ _ _ (by simp)).trans this
  have HF3 : w3.heap[w.heap.size + 1 + 1]? = some (.cells #[.int .i64 0] 3 (0, 0)) := by
    rw [hw3]
    have := heap_alloc_new ((w.alloc (Obj.cells #[.int .i64 0] 3)).alloc (Obj.cells #[v] 24)) (Obj.cells #[.int .i64 0] 3)
    rw [World.size_alloc, World.size_alloc] at this
    exact this
  gi_wp2_with fail
  rw [← hw3]
  clear hw3
  have hz3 : w.heap.size + 1 + 1 < w3.heap.size := lt_of_heap HF3
  have HSEQ := runs1_seq (9 - 1) w w3 v (w.heap.size + 1) (w.heap.size + 1 + 1) n B 0 (by decide) HV.out HB3 HS3 (cell_of_heap HF3 0 _ rfl)
  rw [show (max (0 : Int) 0).toNat = 0 from rfl] at HSEQ
  refine rangeM (α := Nat × Nat) rfl (by decide) (gf := 44) (lb := #[.pointer (some ⟨w.heap.size + 1 + 1, 0, none⟩), .pointer (some ⟨w.heap.size + 1, 0, none⟩)]) rfl trivial (enters_of Tryd.func44 (by kernel_rfl) rfl) M_other
    HSEQ (by omega) (Below.refl _ _) (fun _ => rfl)
    (fun pre W => IntAt W w.heap.size (sumL pre) ∧ Below w.heap.size w W)
    (fun _ _ _ => False)
    (OwnM.and (intAt_own _ _ (fun (pre : List (Nat × Nat)) => (sumL pre : Int))) (ownM_below (Nat.le_refl _) (by omega))) ?stopOwn ⟨HI3, HB3⟩
    (fun x => { tmps := #[v, undef, .int .i64 0, .int .i64 0, .pointer (some ⟨w.heap.size, 0, none⟩), undef, .int .i64 x.2, v, .func (.func 44) #[] #[.pointer (some ⟨w.heap.size + 1 + 1, 0, none⟩), .pointer (some ⟨w.heap.size + 1, 0, none⟩)], .int .i64 x.1, .int .i64 x.2, undef, undef, undef, undef, undef, undef], defers := [] }) ?assign ?body ?done ?stop
  case stopOwn => intro c s W W' row h _ _; exact h.elim
  case assign =>
    intro lp x W K hK
    simp only [encs]
    gi_wp2
    exact hK
  case body =>
    rintro lp pre ⟨xi, xn⟩ W ⟨hi, hb⟩ hsp
    have hsum : sumL pre + xn ≤ 4000 := by
      obtain ⟨r, hr⟩ := hsp
      have h1 := sum_runs B n n 0 (by omega)
      rw [← hr, sumL_append, sumL_append] at h1
      have h2 := cnt_le B (n - 0) 0
      simp only [sumL] at h1
      omega
    have c0 := cell_of_heap hi 0 _ rfl
    have f0 := free_of_heap hi 0
    have HI : Hid (IntAt W w.heap.size (sumL pre)) := hi
    have HB : Hid (Below w.heap.size w W) := hb
    have HN : Hid (((sumL (pre ++ [(xi, xn)]) : Nat) : Int) = (sumL pre : Int) + (xn : Int)) := by show _ = _; rw [sumL_append]; simp [sumL]
    clear hi hb hsp
    dsimp only
    gi_wp2
    refine ⟨keepsM_set HI.out _, (Below.refl _ _).setCell (p := ⟨w.heap.size, 0, none⟩) (Nat.le_refl _) _, ?_, HB.out.setCell (p := ⟨w.heap.size, 0, none⟩) (Nat.le_refl _) _⟩
    rw [HN.out]
    exact heap_setCell_same _ _ 0 _ _ _ HI.out
  case done =>
    rintro D xs W hD hS ⟨hi, hb⟩ hK
    subst hS
    rw [sum_runs B n n 0 (by omega), Nat.sub_zero] at hi
    have c0 : W.cell? ⟨w.heap.size, 0, none⟩ = some (.int .i64 (cnt B n 0 : Nat)) := cell_of_heap hi 0 _ rfl
    have hend := end_any v n B W.drew (HV.out.below hb.drew (Nat.le_refl _))
    have HB : Hid (Below w.heap.size w W) := hb
    have HK : Hid (W.heap[D]? = some (.deferred (some []))) := hK
    clear hi hb hK HSEQ HI3 HB3 HS3 HF3
    obtain ⟨cc, hcc⟩ : ∃ cc, cnt B n 0 = cc := ⟨_, rfl⟩
    rw [hcc] at c0
    have HCC : Hid (cnt B n 0 = cc) := hcc
    clear hcc
    gi_wp2
    refine wpIn_onlyN ?_
    refine wpIn_wide.2 ?_
    refine wp_region_held_drew (S := fun W => W.cell? ⟨w.heap.size, 0, none⟩ = some (.int .i64 cc)) (by kernel_rfl) (by exact c0) (fun hHeld => ?_)
    change wpAnyH _ _ _ _ _ 5 (Array.replicate 5 false) _ _
    refine wpAnyH_take (i := 0) (oi := _) (v := _) (by simp only [List.getElem?_toArray, List.getElem?_cons_zero]; rfl) (by kernel_rfl) (by kernel_rfl) (by kernel_rfl) (by exact fun _ _ _ h => h) (Or.inl ⟨by rfl, by intro w' hSw; (try dsimp only at hSw); first | (go_simp; done) | (go_simp; with_reducible rfl)⟩) hHeld ?_
    simp only [Act.put, List.setIfInBounds_toArray, List.set_cons_zero, List.set_cons_succ]
    refine wpAnyH_take (i := 2) (oi := _) (v := _) (by simp only [List.getElem?_toArray, List.getElem?_cons_succ, List.getElem?_cons_zero]; rfl) (by kernel_rfl) (by kernel_rfl) (by kernel_rfl) (by exact fun _ _ _ h => h) (Or.inl ⟨by rfl, by intro w' hSw; (try dsimp only at hSw); first | (go_simp; done) | (go_simp; with_reducible rfl)⟩) hHeld ?_
    simp only [Act.put, List.setIfInBounds_toArray, List.set_cons_zero, List.set_cons_succ]
    refine wpAnyH_ready (rs := [1]) (by kernel_rfl) (by simp) ?_
    refine AllReadyH.cons rfl (fun K hK => ?_) AllReadyH.nil
    go_simp
    go_wp2_with fail
    refine hend.mono ?_
    rintro r w4 ⟨rfl, rfl⟩
    refine hK.out _ _ hHeld (fun hHeld => ?_)
    clear hK K hend
    refine wpAnyH_take (i := 3) (oi := _) (v := _) (by simp only [List.getElem?_toArray, List.getElem?_cons_succ, List.getElem?_cons_zero]; rfl) (by kernel_rfl) (by kernel_rfl) (by kernel_rfl) (by exact fun _ _ _ h => h) (Or.inl ⟨by rfl, by intro w' hSw; (try dsimp only at hSw); first | (go_simp; done) | (go_simp; with_reducible rfl)⟩) hHeld ?_
    simp only [Act.put, List.setIfInBounds_toArray, List.set_cons_zero, List.set_cons_succ]
    refine wpAnyH_take (i := 4) (oi := _) (v := _) (by simp only [List.getElem?_toArray, List.getElem?_cons_succ, List.getElem?_cons_zero]; rfl) (by kernel_rfl) (by kernel_rfl) (by kernel_rfl) (by exact fun _ _ _ h => h) (Or.inl ⟨by rfl, by intro w' hSw; (try dsimp only at hSw); first | (go_simp; done) | (go_simp; with_reducible rfl)⟩) hHeld ?_
    simp only [Act.put, List.setIfInBounds_toArray, List.set_cons_zero, List.set_cons_succ]
    refine wpAnyH_done (by kernel_rfl) ?_ _
    dsimp only [onlyN]
    gi_wp2
    refine ⟨by simp, .inl ⟨_, _, rfl, run_takeDeferred (w := W.drew) HK.out, ?_⟩⟩
    refine ⟨.tuple #[.int .i64 n, .int .i64 cc], ?_, by rw [HCC.out], HB.out.drew.trans (belowK_b (w := w) (Nat.le_refl _) _ D _ _ (by omega) HK.out rfl rfl)⟩
    simp [results, Tryd.f24, go_sem]
  case stop =>
    rintro D c pre W hD hpre h
    exact h.elim

end Go.Proofs.YtkflhakgfpiiaaaDoor.Bt
