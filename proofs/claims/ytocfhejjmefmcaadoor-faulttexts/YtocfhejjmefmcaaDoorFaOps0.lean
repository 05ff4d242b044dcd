/-
  Ops of nothing, and of a number: none. No condition.
-/
import Derived.Test.YtocfhejjmefmcaaDoorFaNumber
import Derived.Test.YtocfhejjmefmcaaDoorFaSmall
namespace Go.Proofs.YtocfhejjmefmcaaDoor.Fa
open Go.ChangeShapes Go.WideShapes Go.ChangeAt Go.RowKit Go.Proofs.Fa Go.Shelf
attribute [local go_sem] Oper.semAt_some

theorem asFault_base (b : Option (Option Int)) (hb : b ≠ some none) (w : World) : Calls Tryd.prog 29 #[baseV b] w fun e w' => e = .returned (.tuple #[.pointer none, .bool false]) ∧ w' = w := by
  match b, hb with
  | none, _ => exact asFault_none w
  | some none, h => exact absurd rfl h
  | some (some n), _ => exact asFault_errno n w

theorem baseV_isI (b : Option (Option Int)) : IsI (baseV b) := by
  match b with
  | none => exact .inl rfl
  | some none => exact .inr ⟨_, _, rfl⟩
  | some (some n) => exact .inr ⟨_, _, rfl⟩

theorem flat_nil_key (b : Option (Option Int)) (a : ByteArray) (k : Key) (h : k ∈ flat [] a b) : k.2.1 = b ∧ k.2.2 = [] := by
  simp [flat] at h
  subst h
  exact ⟨rfl, rfl⟩

set_option maxRecDepth 100000
set_option maxHeartbeats 2000000
theorem Ops_base (b : Option (Option Int)) (hb : b ≠ some none) (w : World) :
    Calls Tryd.prog 10 #[baseV b] w fun e w' => e = .returned (.slice none 0 0) ∧ Below w.heap.size w w' := by
  have hI : IsI (baseV b) := baseV_isI b
  have HV : Hid (ErrAt w b [] (baseV b)) := rfl
  obtain ⟨v, hv⟩ : ∃ v, v = baseV b := ⟨_, rfl⟩
  rw [← hv] at hI HV ⊢
  have HE : Hid (v = baseV b) := hv
  clear hv
  refine (callsIn_wide (n := 9)).1 ?_
  refine callsIn_of_wp_marks Tryd.func10 rfl trivial ?_ rfl
  simp only [Tryd.ntmps10, List.size_toArray, List.length_cons, List.length_nil, Nat.reduceAdd, Nat.reduceSub, Array.replicate_succ, Array.replicate_zero, List.push_toArray, List.append_toArray, List.nil_append, List.cons_append]
  gi_wp2_with (refine ⟨trivial, ?_⟩; gi_at_call 28; refine (callsIn_wide.2 (all_any _ hI _)).mono ?_; rintro e w' ⟨rfl, rfl⟩)
  have hsz : (w.alloc (.cells #[.slice none 0 0] 31)).heap.size = w.heap.size + 1 := by simp
  have hbel : Below w.heap.size w ((w.alloc (.cells #[.slice none 0 0] 31)).alloc (.cells #[v] 25)) := ((Below.refl _ w).alloc (Nat.le_refl _) _).alloc (by simp) _
  refine rangeM (α := It w) rfl (by decide) (gf := 42) (lb := #[.pointer (some ⟨w.heap.size + 1, 0, none⟩)]) rfl trivial (enters_of Tryd.func42 (by kernel_rfl) rfl) M_other
    (all1_seq _ w _ (w.heap.size + 1) b [] v (by decide) HV.out hbel (by have h := cell_of_heap (heap_alloc_new (w.alloc (.cells #[.slice none 0 0] 31)) (.cells #[v] 25)) 0 v rfl; rw [hsz] at h; exact h)) (by simp; omega) (Below.refl _ _) (fun _ => rfl)
    (fun _ W => W.heap[w.heap.size]? = some (.cells #[.slice none 0 0] 31 (0, 0)) ∧ Below w.heap.size w W)
    (fun _ _ _ => False)
    (OwnM.and (box_own _ _ (fun (_ : List (It w)) => #[.slice none 0 0]) 31 (by decide)) (ownM_below (Nat.le_refl _) (by simp; omega))) ?stopOwn ⟨(Below.heap_alloc _ _ _ (by simp)).trans (heap_alloc_new w _), hbel⟩
    (fun x => { tmps := #[v, undef, .slice none 0 0, .pointer (some ⟨w.heap.size, 0, none⟩), undef, x.1.v, undef, undef, v, .func (.func 42) #[] #[.pointer (some ⟨w.heap.size + 1, 0, none⟩)], .string x.1.ahead, x.1.v, undef, undef, undef, undef, undef, undef, undef, undef, undef, undef, undef, undef, undef], defers := [] }) ?assign ?body ?done ?stop
  case stopOwn => intro c s W W' row h _ _; exact h.elim
  case assign =>
    intro lp x W K hK
    simp only [encs]
    gi_wp2
    exact hK
  case body =>
    rintro lp pre ⟨⟨xa, xb, xl, xv⟩, hxa⟩ W ⟨hbox, hbw⟩ hsp
    have hx2 : xb = b ∧ xl = [] := flat_nil_key b ⟨#[]⟩ (xa, xb, xl) (by
      obtain ⟨r, hr⟩ := hsp
      rw [← hr]; simp [It.key, Item.key])
    obtain ⟨rfl, rfl⟩ := hx2
    have hxv : xv = baseV xb := hxa
    have Hbw : Hid (Below w.heap.size w W) := hbw
    have Hbox : Hid (W.heap[w.heap.size]? = some (.cells #[.slice none 0 0] 31 (0, 0))) := hbox
    clear hbox hbw hsp
    dsimp only
    gi_wp2_with fail
    refine ⟨trivial, ?_⟩
    rw [hxv]
    refine (CallsIn.inRound lp (callsIn_wide.2 (asFault_base xb hb W))).mono ?_
    rintro e w1 ⟨rfl, rfl⟩
    gi_wp2
    exact ⟨keepsM_below (Below.refl _ _), Below.refl _ _, Hbox.out, Hbw.out⟩
  case done =>
    rintro D ys W hD hys ⟨hbox, hbw⟩ hK
    have hc := cell_of_heap hbox 0 _ rfl
    have hf := free_of_heap hbox 0
    have hD1 : w.heap.size + 1 ≤ D := by simp at hD; omega
    gi_wp2
    refine ⟨by simp, .inl ⟨_, _, rfl, run_takeDeferred hK, ?_⟩⟩
    refine ⟨.slice none 0 0, ?_, rfl, hbw.trans (belowK_b (w := w) (Nat.le_refl _) _ D _ _ (by omega) hK rfl rfl)⟩
    simp [results, Tryd.f10, go_sem]
  case stop =>
    rintro D c pre W hD hpre h
    exact h.elim

end Go.Proofs.YtocfhejjmefmcaaDoor.Fa
