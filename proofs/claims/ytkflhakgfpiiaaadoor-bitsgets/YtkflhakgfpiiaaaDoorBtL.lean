/-
  The longest free run of a set, and the first one that is long enough. No condition.
-/
import Derived.Test.YtkflhakgfpiiaaaDoorBtZ
namespace Go.Proofs.YtkflhakgfpiiaaaDoor.Bt
open Go.ChangeShapes Go.WideShapes Go.ChangeAt Go.RowKit Go.Proofs.Fa Go.Shelf
attribute [local go_sem] Oper.semAt_some

theorem blk_own {β : Type} (C b : Nat) (o : β → Obj) (ho : ∀ s, ¬ M (o s)) : OwnM M C (fun s W => W.heap[b]? = some (o s)) := by
  intro s W W' row h hg hr
  refine (hg.block b (lt_of_heap h) (fun e => ?_)).trans h
  obtain ⟨_, o', h2, h3⟩ := hr b e.symm
  rw [h] at h2
  cases h2
  exact ho s h3
theorem not_M_bool {v : Value} : ¬ M (.cells #[v] 4 (0, 0)) := by
  rintro (h1 | ⟨u, h1⟩)
  · cases h1
  · simp at h1

set_option maxRecDepth 100000
set_option maxHeartbeats 2000000

theorem longest_any (v : Value) (n : Nat) (B : Nat → Nat) (w : World) (h : SetV w v n B) :
    Calls Tryd.prog 23 #[v] w fun r w' => r = .returned (.tuple #[.int .i64 (longF (runsL B n n 0) (0, 0)).1, .int .i64 (longF (runsL B n n 0) (0, 0)).2]) ∧ Below w.heap.size w w' := by
  have hv : v = .pointer none ∨ ∃ b, v = .pointer (some ⟨b, 0, none⟩) := by
    rcases h with ⟨rfl, _⟩ | ⟨b, rfl, _⟩
    · exact .inl rfl
    · exact .inr ⟨b, rfl⟩
  have hruns := fun w => runs_any v 0 w hv
  have HV : Hid (SetV w v n B) := h
  clear h
  refine (callsIn_wide (n := 9)).1 ?_
  refine callsIn_of_wp_marks Tryd.func23 rfl trivial ?_ rfl
  simp only [Tryd.ntmps23, List.size_toArray, List.length_cons, List.length_nil, Nat.reduceAdd, Nat.reduceSub, Array.replicate_succ, Array.replicate_zero, List.push_toArray, List.append_toArray, List.nil_append, List.cons_append]
  clear hv
  gi_wp2_with fail
  refine ⟨trivial, ?_⟩
  refine (callsIn_wide.2 (hruns _)).mono ?_
  rintro e w' ⟨rfl, rfl⟩
  clear hruns
  have hmx := HV.out.max
  obtain ⟨w3, hw3⟩ : ∃ w3, w3 = (((w.alloc (Obj.cells #[.int .i64 0] 3)).alloc (Obj.cells #[.int .i64 0] 3)).alloc (Obj.cells #[v] 24)).alloc (Obj.cells #[.int .i64 0] 3) := ⟨_, rfl⟩
  have HB3 : Below w.heap.size w w3 := by rw [hw3]; exact ((((Below.refl _ _).alloc (Nat.le_refl _) _).alloc (by simp) _).alloc (by simp; omega) _).alloc (by simp; omega) _
  have HI3 : IntAt w3 w.heap.size 0 := by rw [hw3]; exact (((Below.heap_alloc _ _ _ (by simp; omega)).trans (Below.heap_alloc _ _ _ (by simp; omega))).trans (Below.heap_alloc _ _ _ (by simp))).trans (heap_alloc_new w _)
  have HJ3 : IntAt w3 (w.heap.size + 1) 0 := by
    rw [hw3]
    have := heap_alloc_new (w.alloc (Obj.cells #[.int .i64 0] 3)) (Obj.cells #[.int .i64 0] 3)
    rw [World.size_alloc] at this
    exact ((Below.heap_alloc _ _ _ (by simp)).trans (Below.heap_alloc _ _ _ (by simp))).trans this
  have HS3 : w3.heap[w.heap.size + 1 + 1]? = some (.cells #[v] 24 (0, 0)) := by
    rw [hw3]
    have := heap_alloc_new ((w.alloc (Obj.cells #[.int .i64 0] 3)).alloc (Obj.cells #[.int .i64 0] 3)) (Obj.cells #[v] 24)
    rw [World.size_alloc, World.size_alloc] at this
    exact (Below.heap_alloc _ _ _ (by simp)).trans this
  have HF3 : w3.heap[w.heap.size + 1 + 1 + 1]? = some (.cells #[.int .i64 0] 3 (0, 0)) := by
    rw [hw3]
    have := heap_alloc_new (((w.alloc (Obj.cells #[.int .i64 0] 3)).alloc (Obj.cells #[.int .i64 0] 3)).alloc (Obj.cells #[v] 24)) (Obj.cells #[.int .i64 0] 3)
    rw [World.size_alloc, World.size_alloc, World.size_alloc] at this
    exact this
  gi_wp2_with fail
  rw [← hw3]
  clear hw3
  have hz3 : w.heap.size + 1 + 1 + 1 < w3.heap.size := lt_of_heap HF3
  have HSEQ := runs1_seq (9 - 1) w w3 v (w.heap.size + 1 + 1) (w.heap.size + 1 + 1 + 1) n B 0 (by decide) HV.out HB3 HS3 (cell_of_heap HF3 0 _ rfl)
  rw [show (max (0 : Int) 0).toNat = 0 from rfl] at HSEQ
  refine rangeM (α := Nat × Nat) rfl (by decide) (gf := 44) (lb := #[.pointer (some ⟨w.heap.size + 1 + 1 + 1, 0, none⟩), .pointer (some ⟨w.heap.size + 1 + 1, 0, none⟩)]) rfl trivial (enters_of Tryd.func44 (by kernel_rfl) rfl) M_other
    HSEQ (by omega) (Below.refl _ _) (fun _ => rfl)
    (fun pre W => (IntAt W w.heap.size (longF pre (0, 0)).1 ∧ IntAt W (w.heap.size + 1) (longF pre (0, 0)).2) ∧ Below w.heap.size w W)
    (fun _ _ _ => False)
    (OwnM.and (OwnM.and (intAt_own _ _ (fun (pre : List (Nat × Nat)) => ((longF pre (0, 0)).1 : Int))) (intAt_own _ _ (fun (pre : List (Nat × Nat)) => ((longF pre (0, 0)).2 : Int)))) (ownM_below (Nat.le_refl _) (by omega))) ?stopOwn ⟨⟨HI3, HJ3⟩, HB3⟩
    (fun x => { tmps := #[v, undef, .int .i64 0, .int .i64 0, .pointer (some ⟨w.heap.size, 0, none⟩), .pointer (some ⟨w.heap.size + 1, 0, none⟩), .int .i64 x.1, .int .i64 x.2, v, .func (.func 44) #[] #[.pointer (some ⟨w.heap.size + 1 + 1 + 1, 0, none⟩), .pointer (some ⟨w.heap.size + 1 + 1, 0, none⟩)], .int .i64 x.1, .int .i64 x.2, undef, undef, undef, undef, undef, undef, undef], defers := [] }) ?assign ?body ?done ?stop
  case stopOwn => intro c s W W' row h _ _; exact h.elim
  case assign =>
    intro lp x W K hK
    simp only [encs]
    gi_wp2
    exact hK
  case body =>
    rintro lp pre ⟨xi, xn⟩ W ⟨⟨hi, hj⟩, hb⟩ hsp
    have c0 := cell_of_heap hi 0 _ rfl
    have f0 := free_of_heap hi 0
    have c1 := cell_of_heap hj 0 _ rfl
    have f1 := free_of_heap hj 0
    have HI : Hid (IntAt W w.heap.size (longF pre (0, 0)).1) := hi
    have HJ : Hid (IntAt W (w.heap.size + 1) (longF pre (0, 0)).2) := hj
    have HB : Hid (Below w.heap.size w W) := hb
    have HL : Hid (longF (pre ++ [(xi, xn)]) (0, 0) = if (longF pre (0, 0)).2 < xn then (xi, xn) else longF pre (0, 0)) := by show _ = _; rw [longF_append]; rfl
    clear hi hj hb hsp
    generalize longF pre (0, 0) = s at *
    obtain ⟨s1, s2⟩ := s
    dsimp only at *
    by_cases hlt : s2 < xn
    · rw [if_pos hlt] at HL
      have hlt' : (s2 : Int) < (xn : Int) := by omega
      have HJ2 : Hid (IntAt (W.setCell ⟨w.heap.size, 0, none⟩ (.int .i64 xi)) (w.heap.size + 1) s2) := (heap_setCell_other _ ⟨w.heap.size, 0, none⟩ _ _ (by show w.heap.size + 1 ≠ w.heap.size; omega)).trans HJ.out
      gi_wp2
      refine ⟨(keepsM_set HI.out _).trans (keepsM_set HJ2.out _), ((Below.refl _ _).setCell (p := ⟨w.heap.size, 0, none⟩) (Nat.le_refl _) _).setCell (p := ⟨w.heap.size + 1, 0, none⟩) (by show w.heap.size ≤ w.heap.size + 1; omega) _, ⟨?_, ?_⟩, (HB.out.setCell (p := ⟨w.heap.size, 0, none⟩) (Nat.le_refl _) _).setCell (p := ⟨w.heap.size + 1, 0, none⟩) (by show w.heap.size ≤ w.heap.size + 1; omega) _⟩
      · rw [HL.out]
        exact (heap_setCell_other _ ⟨w.heap.size + 1, 0, none⟩ _ _ (by show w.heap.size ≠ w.heap.size + 1; omega)).trans (heap_setCell_same _ _ 0 _ _ _ HI.out)
      · rw [HL.out]
        exact heap_setCell_same _ _ 0 _ _ _ HJ2.out
    · rw [if_neg hlt] at HL
      have hlt' : ¬ (s2 : Int) < (xn : Int) := by omega
      gi_wp2
      exact ⟨keepsM_below (Below.refl _ _), Below.refl _ _, ⟨by rw [HL.out]; exact HI.out, by rw [HL.out]; exact HJ.out⟩, HB.out⟩
  case done =>
    rintro D xs W hD hS ⟨⟨hi, hj⟩, hb⟩ hK
    subst hS
    have HB : Hid (Below w.heap.size w W) := hb
    have HK : Hid (W.heap[D]? = some (.deferred (some []))) := hK
    have c0 := cell_of_heap hi 0 _ rfl
    have c1 := cell_of_heap hj 0 _ rfl
    clear hi hj hb hK HSEQ HI3 HJ3 HB3 HS3 HF3
    obtain ⟨s, hs⟩ : ∃ s, longF (runsL B n n 0) (0, 0) = s := ⟨_, rfl⟩
    rw [hs] at c0 c1
    have HSS : Hid (longF (runsL B n n 0) (0, 0) = s) := hs
    clear hs
    obtain ⟨s1, s2⟩ := s
    dsimp only at c0 c1
    gi_wp2
    refine wpIn_onlyN ?_
    refine wpIn_wide.2 ?_
    refine wp_region_held_drew (S := fun W => W.cell? ⟨w.heap.size, 0, none⟩ = some (.int .i64 s1) ∧ W.cell? ⟨w.heap.size + 1, 0, none⟩ = some (.int .i64 s2)) (by kernel_rfl) (by exact ⟨c0, c1⟩) (fun hHeld => ?_)
    change wpAnyH _ _ _ _ _ 4 (Array.replicate 4 false) _ _
    refine wpAnyH_take (i := 0) (oi := _) (v := _) (by simp only [List.getElem?_toArray, List.getElem?_cons_zero]; rfl) (by kernel_rfl) (by kernel_rfl) (by kernel_rfl) (by exact fun _ _ _ h => h) (Or.inl ⟨by rfl, by intro w' hSw; (try dsimp only at hSw); first | (go_simp; done) | (go_simp; with_reducible rfl)⟩) hHeld ?_
    simp only [Act.put, List.setIfInBounds_toArray, List.set_cons_zero, List.set_cons_succ]
    refine wpAnyH_take (i := 1) (oi := _) (v := _) (by simp only [List.getElem?_toArray, List.getElem?_cons_succ, List.getElem?_cons_zero]; rfl) (by kernel_rfl) (by kernel_rfl) (by kernel_rfl) (by exact fun _ _ _ h => h) (Or.inl ⟨by rfl, by intro w' hSw; (try dsimp only at hSw); first | (go_simp; done) | (go_simp; with_reducible rfl)⟩) hHeld ?_
    simp only [Act.put, List.setIfInBounds_toArray, List.set_cons_zero, List.set_cons_succ]
    refine wpAnyH_take (i := 2) (oi := _) (v := _) (by simp only [List.getElem?_toArray, List.getElem?_cons_succ, List.getElem?_cons_zero]; rfl) (by kernel_rfl) (by kernel_rfl) (by kernel_rfl) (by exact fun _ _ _ h => h) (Or.inl ⟨by rfl, by intro w' hSw; (try dsimp only at hSw); first | (go_simp; done) | (go_simp; with_reducible rfl)⟩) hHeld ?_
    simp only [Act.put, List.setIfInBounds_toArray, List.set_cons_zero, List.set_cons_succ]
    refine wpAnyH_take (i := 3) (oi := _) (v := _) (by simp only [List.getElem?_toArray, List.getElem?_cons_succ, List.getElem?_cons_zero]; rfl) (by kernel_rfl) (by kernel_rfl) (by kernel_rfl) (by exact fun _ _ _ h => h) (Or.inl ⟨by rfl, by intro w' hSw; (try dsimp only at hSw); first | (go_simp; done) | (go_simp; with_reducible rfl)⟩) hHeld ?_
    simp only [Act.put, List.setIfInBounds_toArray, List.set_cons_zero, List.set_cons_succ]
    refine wpAnyH_done (by kernel_rfl) ?_ _
    dsimp only [onlyN]
    gi_wp2
    refine ⟨by simp, .inl ⟨_, _, rfl, run_takeDeferred (w := W.drew) HK.out, ?_⟩⟩
    refine ⟨.tuple #[.int .i64 s1, .int .i64 s2], ?_, by rw [HSS.out], HB.out.drew.trans (belowK_b (w := w) (Nat.le_refl _) _ D _ _ (by omega) HK.out rfl rfl)⟩
    simp [results, Tryd.f23, go_sem]
  case stop =>
    rintro D c pre W hD hpre h
    exact h.elim

/-- A number, or none. -/
def optN (o : Option Nat) : Value := .tuple #[.int .i64 ((o.getD 0 : Nat) : Int), .bool o.isSome]
/-- What Run answers. -/
def runG (B : Nat → Nat) (n : Nat) (m f : Int) : Option Nat := if m < 1 then none else firstF (runsL B n n (max f 0).toNat) m
theorem first_none {xs : List (Nat × Nat)} {m : Int} (h : ∀ x ∈ xs, ¬ m ≤ x.2) : firstF xs m = none := by
  unfold firstF
  rw [List.find?_eq_none.2 (fun x hx => by simpa using h x hx)]
  rfl
theorem first_some {xs pre : List (Nat × Nat)} {x : Nat × Nat} {m : Int} (hp : pre ++ [x] <+: xs) (h : ∀ y ∈ pre, ¬ m ≤ y.2) (hx : m ≤ x.2) : firstF xs m = some x.1 := by
  obtain ⟨r, rfl⟩ := hp
  unfold firstF
  rw [List.find?_append, List.find?_append, List.find?_eq_none.2 (fun y hy => by simpa using h y hy)]
  simp [hx]

/-- The cells of Run: how long it is to be, its two results. -/
def RunC (W : World) (b : Nat) (m x : Int) (t : Bool) : Prop := W.heap[b]? = some (.cells #[.int .i64 m] 3 (0, 0)) ∧ W.heap[b + 1]? = some (.cells #[.int .i64 x] 3 (0, 0)) ∧ W.heap[b + 1 + 1]? = some (.cells #[.bool t] 4 (0, 0))
theorem runC_own {β : Type} (C b : Nat) (m : Int) (t : Bool) (p : β → Prop) (f : β → Int) : OwnM M C (fun s W => p s ∧ RunC W b m (f s) t) := by
  intro s W W' row ⟨hp, h1, h2, h3⟩ hg hr
  exact ⟨hp, blk_own C b (fun _ : β => .cells #[.int .i64 m] 3 (0, 0)) (fun _ => not_M rfl) s W W' row h1 hg hr, blk_own C (b + 1) (fun _ : β => .cells #[.int .i64 (f s)] 3 (0, 0)) (fun _ => not_M rfl) s W W' row h2 hg hr, blk_own C (b + 1 + 1) (fun _ : β => .cells #[.bool t] 4 (0, 0)) (fun _ => not_M_bool) s W W' row h3 hg hr⟩
def lastF (pre : List (Nat × Nat)) : Int := (((pre.getLast?.map (·.1)).getD 0 : Nat) : Int)
theorem lastF_snoc (q : List (Nat × Nat)) (x : Nat × Nat) : lastF (q ++ [x]) = x.1 := by unfold lastF; simp
theorem runC_set {W : World} {b : Nat} {m x y : Int} {t u : Bool} (h : RunC W b m x t) : RunC ((W.setCell ⟨b + 1, 0, none⟩ (.int .i64 y)).setCell ⟨b + 1 + 1, 0, none⟩ (.bool u)) b m y u := by
  obtain ⟨h1, h2, h3⟩ := h
  have e2 := heap_setCell_same W (b + 1) 0 _ _ (.int .i64 y) h2
  have e3 := (heap_setCell_other W ⟨b + 1, 0, none⟩ (b + 1 + 1) (.int .i64 y) (by show b + 1 + 1 ≠ b + 1; omega)).trans h3
  refine ⟨?_, ?_, ?_⟩
  · exact (heap_setCell_other _ ⟨b + 1 + 1, 0, none⟩ b _ (by show b ≠ b + 1 + 1; omega)).trans ((heap_setCell_other _ ⟨b + 1, 0, none⟩ b _ (by show b ≠ b + 1; omega)).trans h1)
  · exact (heap_setCell_other _ ⟨b + 1 + 1, 0, none⟩ (b + 1) _ (by show b + 1 ≠ b + 1 + 1; omega)).trans e2
  · exact heap_setCell_same _ (b + 1 + 1) 0 _ _ (.bool u) e3
theorem runC_keeps {W : World} {b : Nat} {m x y : Int} {t u : Bool} (h : RunC W b m x t) : KeepsM M W ((W.setCell ⟨b + 1, 0, none⟩ (.int .i64 y)).setCell ⟨b + 1 + 1, 0, none⟩ (.bool u)) := by
  refine ⟨by simp, fun k o hk hm => ?_⟩
  have n1 : k ≠ b + 1 := fun e => by subst e; rw [h.2.1] at hk; cases hk; exact not_M rfl hm
  have n2 : k ≠ b + 1 + 1 := fun e => by subst e; rw [h.2.2] at hk; cases hk; exact not_M_bool hm
  exact ((heap_setCell_other _ ⟨b + 1 + 1, 0, none⟩ k _ n2).trans (heap_setCell_other _ ⟨b + 1, 0, none⟩ k _ n1)).trans hk

/-- None of them is long enough. -/
def NoneL (m : Int) (pre : List (Nat × Nat)) : Prop := ∀ x ∈ pre, ¬ m ≤ (x.2 : Int)
/-- The last of them is the first one that is long enough. -/
def FoundL (m : Int) (pre : List (Nat × Nat)) : Prop := ∃ q x, pre = q ++ [x] ∧ NoneL m q ∧ m ≤ (x.2 : Int)
theorem runC_put {W : World} {b D : Nat} {m x : Int} {t : Bool} {l : Option (List Deferred)} (h : RunC W b m x t) (hD : b + 1 + 1 < D) : RunC (W.putObj D (.deferred l)) b m x t :=
  ⟨(World.putObj_heap_other (by omega)).trans h.1, (World.putObj_heap_other (by omega)).trans h.2.1, (World.putObj_heap_other (by omega)).trans h.2.2⟩

theorem res_run (tm : Array Value) (b : Nat) (W : World) (x : Int) (t : Bool) (h6 : tm[6]? = some (.pointer (some ⟨b + 1, 0, none⟩))) (h7 : tm[7]? = some (.pointer (some ⟨b + 1 + 1, 0, none⟩))) (m : Int) (h : RunC W b m x t) :
    (results Tryd.f14 tm).run Tryd.prog W = .ok (.tuple #[.int .i64 x, .bool t]) W := by
  have c0 := cell_of_heap h.2.1 0 _ rfl
  have c1 := cell_of_heap h.2.2 0 _ rfl
  clear h
  simp [results, Tryd.f14, go_sem, h6, h7, c0, c1]

theorem run_any (v : Value) (n : Nat) (B : Nat → Nat) (m f : Int) (w : World) (h : SetV w v n B) (hf : f ≤ 9223372036854775807) :
    Calls Tryd.prog 14 #[v, .int .i64 m, .int .i64 f] w fun r w' => r = .returned (optN (runG B n m f)) ∧ Below w.heap.size w w' := by
  have hv : v = .pointer none ∨ ∃ b, v = .pointer (some ⟨b, 0, none⟩) := by
    rcases h with ⟨rfl, _⟩ | ⟨b, rfl, _⟩
    · exact .inl rfl
    · exact .inr ⟨b, rfl⟩
  have hruns := fun w => runs_any v f w hv
  have HV : Hid (SetV w v n B) := h
  clear h
  obtain ⟨w0, hw0⟩ : ∃ w0, w0 = ((w.alloc (Obj.cells #[.int .i64 m] 3)).alloc (Obj.cells #[.int .i64 0] 3)).alloc (Obj.cells #[.bool false] 4) := ⟨_, rfl⟩
  have HB0 : Below w.heap.size w w0 := by rw [hw0]; exact (((Below.refl _ _).alloc (Nat.le_refl _) _).alloc (by simp) _).alloc (by simp; omega) _
  have HC0 : RunC w0 w.heap.size m 0 false := by
    rw [hw0]
    refine ⟨((Below.heap_alloc _ _ _ (by simp; omega)).trans (Below.heap_alloc _ _ _ (by simp))).trans (heap_alloc_new w _), ?_, ?_⟩
    · have := heap_alloc_new (w.alloc (Obj.cells #[.int .i64 m] 3)) (Obj.cells #[.int .i64 0] 3)
      rw [World.size_alloc] at this
      exact (Below.heap_alloc _ _ _ (by simp)).trans this
    · have := heap_alloc_new ((w.alloc (Obj.cells #[.int .i64 m] 3)).alloc (Obj.cells #[.int .i64 0] 3)) (Obj.cells #[.bool false] 4)
      rw [World.size_alloc, World.size_alloc] at this
      exact this
  have hsz0 : w0.heap.size = w.heap.size + 1 + 1 + 1 := by rw [hw0]; simp
  by_cases hm1 : m < 1
  · have HG : Hid (runG B n m f = none) := by show _ = _; unfold runG; rw [if_pos hm1]
    have c1 := cell_of_heap HC0.2.1 0 _ rfl
    have c2 := cell_of_heap HC0.2.2 0 _ rfl
    go_enter Tryd.func14, Tryd.ntmps14
    go_wp2
    rw [← hw0]
    refine bodyPost_ret (res_run _ w.heap.size _ 0 false rfl rfl m HC0) rfl ?_
    exact ⟨by rw [HG.out]; rfl, HB0⟩
  · have HG : Hid (runG B n m f = firstF (runsL B n n (max f 0).toNat) m) := by show _ = _; unfold runG; rw [if_neg hm1]
    refine (callsIn_wide (n := 9)).1 ?_
    refine callsIn_of_wp_marks Tryd.func14 rfl trivial ?_ rfl
    simp only [Tryd.ntmps14, List.size_toArray, List.length_cons, List.length_nil, Nat.reduceAdd, Nat.reduceSub, Array.replicate_succ, Array.replicate_zero, List.push_toArray, List.append_toArray, List.nil_append, List.cons_append]
    clear hv
    have HSZ : Hid (w0.heap.size = w.heap.size + 1 + 1 + 1) := hsz0
    clear hsz0
    have HR0 := hruns w0
    rw [HSZ.out] at HR0
    clear hruns
    gi_wp2_with fail
    rw [← hw0]
    refine ⟨trivial, ?_⟩
    refine (callsIn_wide.2 HR0).mono ?_
    rintro e w' ⟨rfl, rfl⟩
    clear HR0 hw0
    obtain ⟨w3, hw3⟩ : ∃ w3, w3 = (w0.alloc (Obj.cells #[v] 24)).alloc (Obj.cells #[.int .i64 f] 3) := ⟨_, rfl⟩
    have HB03 : Below w0.heap.size w0 w3 := by rw [hw3]; exact ((Below.refl _ _).alloc (Nat.le_refl _) _).alloc (by simp) _
    have HB3 : Below w.heap.size w w3 := HB0.trans (HB03.mono HB0.size)
    have HC3 : RunC w3 w.heap.size m 0 false := ⟨(HB03.block _ (lt_of_heap HC0.1)).trans HC0.1, (HB03.block _ (lt_of_heap HC0.2.1)).trans HC0.2.1, (HB03.block _ (lt_of_heap HC0.2.2)).trans HC0.2.2⟩
    have HS3 : w3.heap[w.heap.size + 1 + 1 + 1]? = some (.cells #[v] 24 (0, 0)) := by
      rw [hw3, ← HSZ.out]
      exact (Below.heap_alloc _ _ _ (by simp)).trans (heap_alloc_new w0 _)
    have HF3 : w3.heap[w.heap.size + 1 + 1 + 1 + 1]? = some (.cells #[.int .i64 f] 3 (0, 0)) := by
      rw [hw3, ← HSZ.out]
      have := heap_alloc_new (w0.alloc (Obj.cells #[v] 24)) (Obj.cells #[.int .i64 f] 3)
      rw [World.size_alloc] at this
      exact this
    gi_wp2_with fail
    rw [← hw3]
    clear hw3
    have hz3 : w.heap.size + 1 + 1 + 1 + 1 < w3.heap.size := lt_of_heap HF3
    have HSEQ := runs1_seq (9 - 1) w w3 v (w.heap.size + 1 + 1 + 1) (w.heap.size + 1 + 1 + 1 + 1) n B f hf HV.out HB3 HS3 (cell_of_heap HF3 0 _ rfl)
    refine rangeM (α := Nat × Nat) rfl (by decide) (gf := 44) (lb := #[.pointer (some ⟨w.heap.size + 1 + 1 + 1 + 1, 0, none⟩), .pointer (some ⟨w.heap.size + 1 + 1 + 1, 0, none⟩)]) rfl trivial (enters_of Tryd.func44 (by kernel_rfl) rfl) M_other
      HSEQ (by omega) (Below.refl _ _) (fun _ => rfl)
      (fun pre W => (NoneL m pre ∧ RunC W w.heap.size m 0 false) ∧ Below w.heap.size w W)
      (fun c pre W => ((c = .ret ∧ FoundL m pre) ∧ RunC W w.heap.size m (lastF pre) true) ∧ Below w.heap.size w W)
      (OwnM.and (runC_own _ _ m false (NoneL m) (fun _ => 0)) (ownM_below (Nat.le_refl _) (by omega)))
      (fun c => OwnM.and (runC_own _ _ m true (fun (pre : List (Nat × Nat)) => c = .ret ∧ FoundL m pre) lastF) (ownM_below (Nat.le_refl _) (by omega)))
      ⟨⟨fun x h => (by cases h), HC3⟩, HB3⟩
      (fun x => { tmps := #[v, .int .i64 m, .int .i64 f, undef, .pointer (some ⟨w.heap.size, 0, none⟩), undef, .pointer (some ⟨w.heap.size + 1, 0, none⟩), .pointer (some ⟨w.heap.size + 1 + 1, 0, none⟩), .int .i64 x.1, .int .i64 x.2, .int .i64 m, .bool false, v, .int .i64 f, .func (.func 44) #[] #[.pointer (some ⟨w.heap.size + 1 + 1 + 1 + 1, 0, none⟩), .pointer (some ⟨w.heap.size + 1 + 1 + 1, 0, none⟩)], .int .i64 x.1, .int .i64 x.2, undef, undef, undef, undef], defers := [] }) ?assign ?body ?done ?stop
    case assign =>
      intro lp x W K hK
      simp only [encs]
      gi_wp2
      exact hK
    case body =>
      rintro lp pre ⟨xi, xn⟩ W ⟨⟨hno, hc⟩, hb⟩ hsp
      have c0 := cell_of_heap hc.1 0 _ rfl
      have c1 := cell_of_heap hc.2.1 0 _ rfl
      have c2 := cell_of_heap hc.2.2 0 _ rfl
      have f1 := free_of_heap hc.2.1 0
      have f2 := free_of_heap hc.2.2 0
      have HC : Hid (RunC W w.heap.size m 0 false) := hc
      have HB : Hid (Below w.heap.size w W) := hb
      have HNO : Hid (NoneL m pre) := hno
      clear hno hc hb hsp
      dsimp only
      by_cases hlt : m ≤ (xn : Int)
      · gi_wp2
        refine ⟨runC_keeps HC.out, ⟨⟨rfl, ⟨pre, (xi, xn), rfl, HNO.out, hlt⟩⟩, by rw [lastF_snoc]; exact runC_set HC.out⟩, (HB.out.setCell (p := ⟨w.heap.size + 1, 0, none⟩) (by show w.heap.size ≤ w.heap.size + 1; omega) _).setCell (p := ⟨w.heap.size + 1 + 1, 0, none⟩) (by show w.heap.size ≤ w.heap.size + 1 + 1; omega) _⟩
      · have HN2 : Hid (NoneL m (pre ++ [(xi, xn)])) := by
          intro x hx
          rcases List.mem_append.1 hx with h | h
          · exact HNO.out x h
          · simp only [List.mem_singleton] at h; subst h; exact hlt
        gi_wp2
        exact ⟨keepsM_below (Below.refl _ _), Below.refl _ _, ⟨HN2.out, HC.out⟩, HB.out⟩
    case done =>
      rintro D xs W hD hS ⟨⟨hno, hc⟩, hb⟩ hK
      have HF : Hid (runG B n m f = none) := by show _ = _; rw [HG.out, ← hS]; exact first_none hno
      have HB : Hid (Below w.heap.size w W) := hb
      have HK : Hid (W.heap[D]? = some (.deferred (some []))) := hK
      have HC : Hid (RunC W w.heap.size m 0 false) := hc
      have c1 := cell_of_heap hc.2.1 0 _ rfl
      have c2 := cell_of_heap hc.2.2 0 _ rfl
      have f1 := free_of_heap hc.2.1 0
      have f2 := free_of_heap hc.2.2 0
      clear hno hc hb hK HSEQ HC3 HB3 HS3 HF3 HC0 HB0 HB03
      gi_wp2
      have HC2 : RunC ((W.setCell ⟨w.heap.size + 1, 0, none⟩ (.int .i64 0)).setCell ⟨w.heap.size + 1 + 1, 0, none⟩ (.bool false)) w.heap.size m 0 false := runC_set HC.out
      have HB2 : Below w.heap.size w ((W.setCell ⟨w.heap.size + 1, 0, none⟩ (.int .i64 0)).setCell ⟨w.heap.size + 1 + 1, 0, none⟩ (.bool false)) := (HB.out.setCell (p := ⟨w.heap.size + 1, 0, none⟩) (by show w.heap.size ≤ w.heap.size + 1; omega) _).setCell (p := ⟨w.heap.size + 1 + 1, 0, none⟩) (by show w.heap.size ≤ w.heap.size + 1 + 1; omega) _
      have HK2 : ((W.setCell ⟨w.heap.size + 1, 0, none⟩ (.int .i64 0)).setCell ⟨w.heap.size + 1 + 1, 0, none⟩ (.bool false)).heap[D]? = some (.deferred (some [])) := ((heap_setCell_other _ ⟨w.heap.size + 1 + 1, 0, none⟩ D _ (by show D ≠ w.heap.size + 1 + 1; omega)).trans (heap_setCell_other _ ⟨w.heap.size + 1, 0, none⟩ D _ (by show D ≠ w.heap.size + 1; omega))).trans HK.out
      refine ⟨by simp, .inl ⟨_, _, rfl, run_takeDeferred HK2, ?_⟩⟩
      refine ⟨.tuple #[.int .i64 0, .bool false], res_run _ w.heap.size _ 0 false rfl rfl m (runC_put HC2 (by omega)), by rw [HF.out]; rfl, HB2.trans (belowK_b (w := w) (Nat.le_refl _) _ D _ _ (by omega) HK2 rfl rfl)⟩
    case stop =>
      rintro D c pre W hD hpre ⟨⟨⟨rfl, ⟨q, x, rfl, hq, hx⟩⟩, hc⟩, hb⟩ hK
      have HF : Hid (runG B n m f = some x.1) := by show _ = _; rw [HG.out]; exact first_some hpre hq hx
      rw [lastF_snoc] at hc
      have HQ : Hid (NoneL m q) := hq
      clear hq
      gi_wp2
      refine ⟨by simp, .inl ⟨_, _, rfl, run_takeDeferred hK, ?_⟩⟩
      refine ⟨.tuple #[.int .i64 x.1, .bool true], res_run _ w.heap.size _ x.1 true rfl rfl m (runC_put hc (by omega)), by rw [HF.out]; rfl, hb.trans (belowK_b (w := w) (Nat.le_refl _) _ D _ _ (by omega) hK rfl rfl)⟩

end Go.Proofs.YtkflhakgfpiiaaaDoor.Bt
