/-
  Number of an error. No condition.
-/
import Derived.Test.YtncjlcgndhodmabDoorFaNum
namespace Go.Proofs.YtncjlcgndhodmabDoor.Fa
open Go.ChangeShapes Go.WideShapes Go.ChangeAt Go.RowKit Go.Proofs.Fa Go.Shelf
attribute [local go_sem] Oper.semAt_some

theorem numOf_append (a b : List Key) (h : numOf a = none) : numOf (a ++ b) = numOf b := by
  induction a with
  | nil => rfl
  | cons k a ih =>
    simp only [numOf] at h
    simp only [List.cons_append, numOf]
    cases hk : numK k.2.1 k.2.2 with
    | some n => rw [hk] at h; cases h
    | none => rw [hk] at h; exact ih h
theorem numOf_prefix {a b : List Key} {n : Int} (h : a <+: b) (hn : numOf a = some n) : numOf b = some n := by
  obtain ⟨r, rfl⟩ := h
  induction a with
  | nil => cases hn
  | cons k a ih =>
    simp only [numOf] at hn
    simp only [List.cons_append, numOf]
    cases hk : numK k.2.1 k.2.2 with
    | some m => rw [hk] at hn; exact hn
    | none => rw [hk] at hn; exact ih hn
theorem flat_base {b : Option (Option Int)} (hb : b ≠ some none) : ∀ (l : List Layer) (a : ByteArray) (k : Key), k ∈ flat l a b → k.2.1 ≠ some none
  | [], a, k, h => by simp only [flat, List.mem_cons, List.not_mem_nil, or_false] at h; subst h; exact hb
  | y :: r, a, k, h => by
    simp only [flat, List.mem_cons, List.mem_append] at h
    rcases h with rfl | h | h
    · exact hb
    · exact flat_base hb r _ k h
    · split at h
      · simp only [List.mem_cons, List.not_mem_nil, or_false] at h; subst h; intro e; cases e
      · cases h
theorem box_own {β : Type} (C k : Nat) (c : β → Array Value) (t : TypeId) (ht : t ≠ 84) : OwnM M C (fun s W => W.heap[k]? = some (.cells (c s) t (0, 0))) := by
  intro s W W' row h hg hr
  refine (hg.block k (lt_of_heap h) ?_).trans h
  intro e
  obtain ⟨_, o, h2, h3⟩ := hr k e.symm
  rw [h] at h2
  cases h2
  rcases h3 with h3 | ⟨c', m', h3⟩
  · cases h3
  · cases h3; exact ht rfl

theorem not_M {c : Array Value} {t : TypeId} {m : Nat × Nat} (ht : t ≠ 84) : ¬ M (.cells c t m) := by
  rintro (h | ⟨c', m', h⟩)
  · cases h
  · cases h; exact ht rfl
theorem box_set {W : World} {k : Nat} {v : Value} {t : TypeId} (h : W.heap[k]? = some (.cells #[v] t (0, 0))) (u : Value) : (W.setCell ⟨k, 0, none⟩ u).heap[k]? = some (.cells #[u] t (0, 0)) := heap_setCell_same W k 0 #[v] t u h

/-- The number of these. -/
def numberV (ks : List Key) : Int := (numOf ks).getD 17

set_option maxRecDepth 100000
set_option maxHeartbeats 2000000
theorem Number_nil (w : World) : Calls Tryd.prog 13 #[.nilIface] w fun e w' => e = .returned (.int .i64 0) ∧ Below w.heap.size w w' := by
  go_enter Tryd.func13, Tryd.ntmps13
  go_wp2
  refine bodyPost_ret (v := .int .i64 0) (by simp [results, Tryd.f13, go_sem]) rfl ?_
  exact ⟨rfl, (Below.refl _ w).alloc (Nat.le_refl _) _⟩

theorem Number_any (b : Option (Option Int)) (hb : b ≠ some none) (l : List Layer) (t : TypeId) (u : Value) (w : World) (hl : l.length ≤ 1000) (hx : ErrAt w b l (.iface t u)) (hE : Go.Proofs.YtncjlcgndhodmabDoor.As.ErrT w) :
    Calls Tryd.prog 13 #[.iface t u] w fun e w' => e = .returned (.int .i64 (numberV (flat l ⟨#[]⟩ b))) ∧ Below w.heap.size w w' := by
  have HX : Hid (ErrAt w b l (.iface t u)) := hx
  have HE : Hid (Go.Proofs.YtncjlcgndhodmabDoor.As.ErrT w) := hE
  have hI : IsI (.iface t u) := .inr ⟨_, _, rfl⟩
  clear hx hE
  refine (callsIn_wide (n := 9)).1 ?_
  refine callsIn_of_wp_marks Tryd.func13 rfl trivial ?_ rfl
  simp only [Tryd.ntmps13, List.size_toArray, List.length_cons, List.length_nil, Nat.reduceAdd, Nat.reduceSub, Array.replicate_succ, Array.replicate_zero, List.push_toArray, List.append_toArray, List.nil_append, List.cons_append]
  gi_wp2_with (refine ⟨trivial, ?_⟩; gi_at_call 24; refine (callsIn_wide.2 (all_any _ hI _)).mono ?_; rintro e w' ⟨rfl, rfl⟩)
  have hsz : (w.alloc (.cells #[.int .i64 0] 49)).heap.size = w.heap.size + 1 := by simp
  have hbel : Below w.heap.size w ((w.alloc (.cells #[.int .i64 0] 49)).alloc (.cells #[.iface t u] 36)) := ((Below.refl _ w).alloc (Nat.le_refl _) _).alloc (by simp) _
  refine rangeM (α := It w) rfl (by decide) (gf := 39) (lb := #[.pointer (some ⟨w.heap.size + 1, 0, none⟩)]) rfl trivial (enters_of Tryd.func39 (by kernel_rfl) rfl) M_other
    (all1_seq _ w _ (w.heap.size + 1) b l (.iface t u) hl HX.out hbel (by have h := cell_of_heap (heap_alloc_new (w.alloc (.cells #[.int .i64 0] 49)) (.cells #[.iface t u] 36)) 0 (.iface t u) rfl; rw [hsz] at h; exact h)) (by simp; omega) (Below.refl _ _) (fun _ => rfl)
    (fun pre W => (numOf (pre.map It.key) = none ∧ W.heap[w.heap.size]? = some (.cells #[.int .i64 0] 49 (0, 0))) ∧ Below w.heap.size w W)
    (fun c pre W => ((c = .ret ∧ (numOf (pre.map It.key)).isSome = true) ∧ W.heap[w.heap.size]? = some (.cells #[.int .i64 ((numOf (pre.map It.key)).getD 17)] 49 (0, 0))) ∧ Below w.heap.size w W)
    (OwnM.and (OwnM.and ownM_true (box_own _ _ (fun (_ : List (It w)) => #[.int .i64 0]) 49 (by decide))) (ownM_below (Nat.le_refl _) (by simp; omega))) (fun c => OwnM.and (OwnM.and ownM_true (box_own _ _ (fun (pre : List (It w)) => #[.int .i64 ((numOf (pre.map It.key)).getD 17)]) 49 (by decide))) (ownM_below (Nat.le_refl _) (by simp; omega))) ⟨⟨rfl, (Below.heap_alloc _ _ _ (by simp)).trans (heap_alloc_new w _)⟩, hbel⟩
    (fun x => { tmps := #[.iface t u, undef, .pointer (some ⟨w.heap.size, 0, none⟩), undef, x.1.v, undef, undef, .iface t u, .bool false, .iface t u, .func (.func 39) #[] #[.pointer (some ⟨w.heap.size + 1, 0, none⟩)], .string x.1.ahead, x.1.v, undef, undef, undef, undef, undef, undef, undef], defers := [] }) ?assign ?body ?done ?stop
  case assign =>
    intro lp x W K hK
    simp only [encs]
    gi_wp2
    exact hK
  case body =>
    rintro lp pre ⟨⟨xa, xb, xl, xv⟩, hxa⟩ W ⟨⟨hn, hbox⟩, hbw⟩ hsp
    have hxb : xb ≠ some none := flat_base hb l ⟨#[]⟩ (xa, xb, xl) (by
      obtain ⟨r, hr⟩ := hsp
      rw [← hr]; simp [It.key, Item.key])
    have Hbw : Hid (Below w.heap.size w W) := hbw
    have Hbox : Hid (W.heap[w.heap.size]? = some (.cells #[.int .i64 0] 49 (0, 0))) := hbox
    have Hn : Hid (numOf (pre.map It.key) = none) := hn
    have E1 : Hid (ErrAt W xb xl xv) := ErrAt.below hbw hxa
    have E2 : Hid (Go.Proofs.YtncjlcgndhodmabDoor.As.ErrT W) := HE.out.below hbw HE.out.lt
    clear hbox hbw hn hsp
    dsimp only
    gi_wp2_with fail
    refine ⟨trivial, ?_⟩
    refine (CallsIn.inRound lp (callsIn_wide.2 (number_any xb hxb xl xv W E1.out E2.out))).mono ?_
    rintro e w1 ⟨rfl, hb1⟩
    have Hbox1 : Hid (w1.heap[w.heap.size]? = some (.cells #[.int .i64 0] 49 (0, 0))) := (hb1.block _ (lt_of_heap Hbox.out)).trans Hbox.out
    have K1 : Hid (KeepsM M W w1) := keepsM_below hb1
    have L1 : Hid (Below w.heap.size W w1) := hb1.mono Hbw.out.size
    have hc := cell_of_heap Hbox1.out 0 _ rfl
    have hf := free_of_heap Hbox1.out 0
    clear hb1
    cases hk : numK xb xl with
    | none =>
      simp only [numV]
      have Hn2 : Hid (numOf ((pre ++ [(⟨⟨xa, xb, xl, xv⟩, hxa⟩ : It w)]).map It.key) = none) := by
        show _ = _
        rw [List.map_append, numOf_append _ _ Hn.out]; simp [numOf, It.key, Item.key, hk]
      clear hk
      gi_wp2
      exact ⟨K1.out, L1.out, ⟨Hn2.out, Hbox1.out⟩, Hbw.out.trans L1.out⟩
    | some n =>
      simp only [numV]
      have Hn2 : Hid (numOf ((pre ++ [(⟨⟨xa, xb, xl, xv⟩, hxa⟩ : It w)]).map It.key) = some n) := by
        show _ = _
        rw [List.map_append, numOf_append _ _ Hn.out]; simp [numOf, It.key, Item.key, hk]
      clear hk
      gi_wp2
      refine ⟨K1.out.trans (KeepsM.grown (grown_set w1 w.heap.size 0 _) (fun j e o hj hm => ?_)), ⟨⟨rfl, by rw [Hn2.out]; rfl⟩, ?_⟩, (Hbw.out.trans L1.out).setCell (p := ⟨w.heap.size, 0, none⟩) (Nat.le_refl _) _⟩
      · cases e
        rw [Hbox1.out] at hj
        cases hj
        exact not_M (by decide) hm
      · rw [Hn2.out]; exact box_set Hbox1.out _
  case done =>
    rintro D ys W hD hys ⟨⟨hn, hbox⟩, hbw⟩ hK
    rw [hys] at hn
    have hc := cell_of_heap hbox 0 _ rfl
    have hf := free_of_heap hbox 0
    have hD1 : w.heap.size + 1 ≤ D := by simp at hD; omega
    gi_wp2
    have hK' : (W.setCell ⟨w.heap.size, 0, none⟩ (.int .i64 17)).heap[D]? = some (.deferred (some [])) := (heap_setCell_other W ⟨w.heap.size, 0, none⟩ D _ (by show D ≠ w.heap.size; omega)).trans hK
    refine ⟨by simp, .inl ⟨_, _, rfl, run_takeDeferred hK', ?_⟩⟩
    have hh : ((W.setCell ⟨w.heap.size, 0, none⟩ (.int .i64 17)).putObj D (.deferred none)).heap[w.heap.size]? = some (.cells #[.int .i64 17] 49 (0, 0)) := (World.putObj_heap_other (by omega)).trans (box_set hbox _)
    have hc5 := cell_of_heap hh 0 _ rfl
    refine ⟨.int .i64 17, ?_, by rw [numberV, hn]; rfl, (hbw.setCell (p := ⟨w.heap.size, 0, none⟩) (Nat.le_refl _) _).trans (belowK_b (w := w) (Nat.le_refl _) _ D _ _ (by omega) hK' rfl rfl)⟩
    simp [results, Tryd.f13, go_sem, hc5]
  case stop =>
    rintro D c pre W hD hpre ⟨⟨⟨rfl, hn⟩, hbox⟩, hbw⟩ hK
    have hD1 : w.heap.size + 1 ≤ D := by simp at hD; omega
    gi_wp2
    refine ⟨by simp, .inl ⟨_, _, rfl, run_takeDeferred hK, ?_⟩⟩
    have hh : (W.putObj D (.deferred none)).heap[w.heap.size]? = some (.cells #[.int .i64 ((numOf (pre.map It.key)).getD 17)] 49 (0, 0)) := (World.putObj_heap_other (by omega)).trans hbox
    have hc5 := cell_of_heap hh 0 _ rfl
    obtain ⟨n, hn'⟩ := Option.isSome_iff_exists.1 hn
    have hv : numberV (flat l ⟨#[]⟩ b) = (numOf (pre.map It.key)).getD 17 := by rw [numberV, numOf_prefix hpre hn', hn']
    rw [hv]
    refine ⟨.int .i64 ((numOf (pre.map It.key)).getD 17), ?_, rfl, hbw.trans (belowK_b (w := w) (Nat.le_refl _) _ D _ _ (by omega) hK rfl rfl)⟩
    simp [results, Tryd.f13, go_sem, hc5]

end Go.Proofs.YtncjlcgndhodmabDoor.Fa
