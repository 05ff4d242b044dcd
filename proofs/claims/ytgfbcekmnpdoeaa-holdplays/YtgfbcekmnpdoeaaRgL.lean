/-
  A region that draws its order, with a condition on the world that may hang on what has come up already: a cell that is loaded, and stored into behind that. Of no program. No condition.
-/
import Derived.Deep.RegionHeld3
namespace Go.Proofs.Rg
open Go

section
variable {P : Program} {ops : Array Oper} {Q : Exit → Act → World → Prop} {md : Region.Mode} {SL : Array Bool → World → Prop}

/-- Whatever order is picked from here on; behind each operation SL holds of what has come up then. -/
def wpAnyL (P : Program) (md : Region.Mode) (ops : Array Oper) (Q : Exit → Act → World → Prop) (SL : Array Bool → World → Prop) : Nat → Array Bool → Act → World → Prop
  | 0, listed, a, w => Region.ready md ops listed = [] ∧ Q .normal a w
  | fuel + 1, listed, a, w =>
    (Region.ready md ops listed = [] → Q .normal a w) ∧
    ∀ i ∈ Region.ready md ops listed, wpOp P ops Q i (fun a' w' => SL (listed.setIfInBounds i true) w' ∧ wpAnyL P md ops Q SL fuel (listed.setIfInBounds i true) a' w') a w

theorem wpAny_of_L : ∀ (fuel : Nat) (listed : Array Bool) (a : Act) (w : World), wpAnyL P md ops Q SL fuel listed a w → wpAny P md ops Q fuel listed a w
  | 0, _, _, _, h => h
  | fuel + 1, _, _, _, h => ⟨h.1, fun i hi => wpOp_mono (fun a' w' h' => wpAny_of_L fuel _ a' w' h'.2) (h.2 i hi)⟩

/-- Those that wait for i. -/
def waitsB (md : Region.Mode) (ops : Array Oper) (i : Nat) (listed : Array Bool) : Bool :=
  (List.range ops.size).all fun j => match ops[j]? with
    | some o => !(o.after.any fun e => Region.binds md e && e.on == i) || !(listed.getD j true)
    | none => true

theorem wpAnyL_first {i : Nat} {oi : Oper} {v : Value} {Si : World → Prop} (hi : ops[i]? = some oi) (hsel : ∀ (j : Nat) (o : Oper) cs b, ops[j]? = some o → o.op ≠ .select cs b)
    (hQ : ∀ c a w, Q (.panic c) (a.put oi.dst v) w → Q (.panic c) a w)
    (hind : ∀ L w, SL (L.setIfInBounds i true) w → SL L w)
    (hSi : ∀ L w, (∀ j oj, ops[j]? = some oj → (∃ e ∈ oj.after, Region.binds md e = true ∧ e.on = i) → L.getD j true = false) → SL L w → Si w) :
    ∀ (fuel : Nat) (listed : Array Bool) (a : Act) (w : World),
      (∀ j oj, ops[j]? = some oj → (∃ e ∈ oj.after, Region.binds md e = true ∧ e.on = i) → listed.getD j true = false) →
      (∀ j oj, ops[j]? = some oj → j ≠ i → listed.getD j true = false → (∀ e ∈ oj.after, Region.binds md e = true → e.on ≠ i) → oi.apart ops oj = true) →
      i ∈ Region.ready md ops listed → YieldsIf P ops Si oi v a → SL listed w → SL (listed.setIfInBounds i true) w →
      wpAnyL P md ops Q SL fuel (listed.setIfInBounds i true) (a.put oi.dst v) w → wpAnyL P md ops Q SL (fuel + 1) listed a w := by
  intro fuel
  induction fuel with
  | zero =>
    intro listed a w hwt _ hr hy hS hS' H
    refine ⟨fun h => (by rw [h] at hr; cases hr), fun j hj => ?_⟩
    by_cases hji : j = i
    · subst hji; exact hy.wpOp hi (hSi listed w hwt hS) ⟨hS', H⟩
    · have := ready_mono hj hji
      rw [H.1] at this
      cases this
  | succ fuel ih =>
    intro listed a w hwt hfree hr hy hS hS' H
    refine ⟨fun h => (by rw [h] at hr; cases hr), fun j hj => ?_⟩
    by_cases hji : j = i
    · subst hji; exact hy.wpOp hi (hSi listed w hwt hS) ⟨hS', H⟩
    · have h1 := H.2 j (ready_mono hj hji)
      obtain ⟨hjun, oj, hoj, hall⟩ := mem_ready.1 hj
      have hnot : ∀ e ∈ oj.after, Region.binds md e = true → e.on ≠ i := fun e he hb heq => by
        have h1 := hall e he hb
        have h0 := (mem_ready.1 hr).1
        rw [heq] at h1
        rcases Nat.lt_or_ge i listed.size with h' | h'
        · simp [h'] at h0 h1; rw [h0] at h1; cases h1
        · simp [Array.getElem?_eq_none h'] at h1
      have h2 := wpOp_putIf hoj (hfree j oj hoj hji hjun hnot) (fun cs b => hsel i oi cs b hi) (fun cs b => hsel j oj cs b hoj) hQ hy h1
      have hfree' : ∀ k ok, ops[k]? = some ok → k ≠ i → (listed.setIfInBounds j true).getD k true = false →
          (∀ e ∈ ok.after, Region.binds md e = true → e.on ≠ i) → oi.apart ops ok = true := fun k ok hk hki hun hno => by
        refine hfree k ok hk hki ?_ hno
        by_cases hjk : j = k
        · subst hjk; exact hjun
        · rw [getD_set_ne true hjk] at hun; exact hun
      have hwt' : ∀ k ok, ops[k]? = some ok → (∃ e ∈ ok.after, Region.binds md e = true ∧ e.on = i) → (listed.setIfInBounds j true).getD k true = false := fun k ok hk he => by
        by_cases hjk : j = k
        · subst hjk
          obtain ⟨e, he1, he2, he3⟩ := he
          rw [hoj] at hk; cases hk
          exact absurd he3 (hnot e he1 he2)
        · rw [getD_set_ne true hjk]; exact hwt k ok hk he
      refine wpOp_mono (fun a' w' h3 => ?_) h2
      have hcomm : (listed.setIfInBounds i true).setIfInBounds j true = (listed.setIfInBounds j true).setIfInBounds i true := Array.setIfInBounds_comm _ _ (fun e => hji e.symm)
      have hSj' : SL ((listed.setIfInBounds j true).setIfInBounds i true) w' := by rw [← hcomm]; exact h3.2.1
      have hSj : SL (listed.setIfInBounds j true) w' := hind _ _ hSj'
      refine ⟨hSj, ih (listed.setIfInBounds j true) a' w' hwt' hfree' (ready_mono hr (Ne.symm hji)) h3.1 hSj hSj' ?_⟩
      rw [← hcomm]
      exact h3.2.2

theorem waits_spec {i : Nat} {listed : Array Bool} (h : waitsB md ops i listed = true) : ∀ j oj, ops[j]? = some oj → (∃ e ∈ oj.after, Region.binds md e = true ∧ e.on = i) → listed.getD j true = false := by
  intro j oj hj ⟨e, he1, he2, he3⟩
  have hlt : j < ops.size := by
    rcases Nat.lt_or_ge j ops.size with h' | h'
    · exact h'
    · rw [Array.getElem?_eq_none h'] at hj; cases hj
  have := List.all_eq_true.1 h j (List.mem_range.2 hlt)
  rw [hj] at this
  simp only [Bool.or_eq_true, Bool.not_eq_true'] at this
  rcases this with h1 | h1
  · have : (oj.after.any fun e => Region.binds md e && e.on == i) = true := by
      rw [Array.any_eq_true']
      exact ⟨e, he1, by simp [he2, he3]⟩
    rw [this] at h1; cases h1
  · exact h1

/-- Take number i first. -/
theorem wpAnyL_take {i : Nat} {oi : Oper} {v : Value} {fuel : Nat} {listed : Array Bool} {a : Act} {w : World} (Si : World → Prop) (hi : ops[i]? = some oi)
    (hs : Region.noSelect ops = true) (hf : Region.free md ops listed i = true) (hr : (Region.ready md ops listed).contains i = true) (hwt : waitsB md ops i listed = true)
    (hQ : ∀ c a w, Q (.panic c) (a.put oi.dst v) w → Q (.panic c) a w)
    (hind : ∀ L w, SL (L.setIfInBounds i true) w → SL L w) (hSi : ∀ L w, (∀ j oj, ops[j]? = some oj → (∃ e ∈ oj.after, Region.binds md e = true ∧ e.on = i) → L.getD j true = false) → SL L w → Si w)
    (hy : YieldsIf P ops Si oi v a) (hS : SL listed w) (hS' : SL (listed.setIfInBounds i true) w)
    (h : SL (listed.setIfInBounds i true) w → wpAnyL P md ops Q SL fuel (listed.setIfInBounds i true) (a.put oi.dst v) w) : wpAnyL P md ops Q SL (fuel + 1) listed a w :=
  wpAnyL_first hi (Region.noSelect_spec hs) hQ hind hSi fuel listed a w (waits_spec hwt) (Region.free_spec hi hf) (by simpa using hr) hy hS hS' (h hS')

def AllReadyL (P : Program) (md : Region.Mode) (ops : Array Oper) (Q : Exit → Act → World → Prop) (SL : Array Bool → World → Prop) (fuel : Nat) (listed : Array Bool) (a : Act) (w : World) (rs : List Nat) : Prop :=
  ∀ i ∈ rs, wpOp P ops Q i (fun a' w' => SL (listed.setIfInBounds i true) w' ∧ wpAnyL P md ops Q SL fuel (listed.setIfInBounds i true) a' w') a w
theorem AllReadyL.nil {fuel : Nat} {listed : Array Bool} {a : Act} {w : World} : AllReadyL P md ops Q SL fuel listed a w [] := fun _ h => by cases h
theorem AllReadyL.cons {fuel : Nat} {listed : Array Bool} {a : Act} {w : World} {i : Nat} {o : Oper} {rs : List Nat} (ho : ops[i]? = some o)
    (h : ∀ K' : Act → World → Prop, Shut (∀ a w, SL (listed.setIfInBounds i true) w → (SL (listed.setIfInBounds i true) w → wpAnyL P md ops Q SL fuel (listed.setIfInBounds i true) a w) → K' a w) → if Region.wanted o (yielded ops a.tmps) = true then Oper.wp P o a w K' Q else K' (a.put o.dst undef) w)
    (hs : AllReadyL P md ops Q SL fuel listed a w rs) : AllReadyL P md ops Q SL fuel listed a w (i :: rs) := fun j hj => by
  rcases List.mem_cons.1 hj with rfl | hj
  · exact wpOp_step ho (fun K' hK => h K' (fun a w hS hW => hK a w ⟨hS, hW hS⟩))
  · exact hs j hj
theorem wpAnyL_ready {rs : List Nat} {fuel : Nat} {listed : Array Bool} {a : Act} {w : World} (hr : Region.ready md ops listed = rs) (hne : rs ≠ [])
    (h : AllReadyL P md ops Q SL fuel listed a w rs) : wpAnyL P md ops Q SL (fuel + 1) listed a w := ⟨fun h0 => absurd (hr ▸ h0) hne, hr ▸ h⟩
theorem wpAnyL_done {listed : Array Bool} {a : Act} {w : World} (hr : Region.ready md ops listed = []) (h : Q .normal a w) :
    ∀ fuel, wpAnyL P md ops Q SL fuel listed a w
  | 0 => ⟨hr, h⟩
  | _ + 1 => ⟨fun _ => h, by rw [hr]; simp⟩
theorem wp_region_L {id : Nat} {a : Act} {w : World} (hm : P.follows .mixedOrders = true) (hS : SL (Array.replicate ops.size false) w.drew)
    (h : SL (Array.replicate ops.size false) w.drew → wpAnyL P .any ops Q SL ops.size (Array.replicate ops.size false) a w.drew) : (Code.region id ops true).wp P Q a w :=
  wp_region_any hm (wpAny_of_L _ _ _ _ (h hS))

end
end Go.Proofs.Rg
