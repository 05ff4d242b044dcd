/-
  A range over a function whose assignment lays a block each round (the loop's own variable). No condition.
-/
import Derived.Test.YtkfphmhnaelflaaFaRange
namespace Go.Proofs.Fa
open Go Go.RowKit

variable {F : Fence} {n : Nat} {P : Program}

theorem rangeA {α : Type} {g : Operand} {ps : Array Tmp} {assign body : Code} {Q : Exit → Act → World → Prop} {a : Act} {w : World}
    (hro : F.round = none) (h1 : 1 ≤ n) {gf : Nat} {lb : Array Value} (hg : a.eval g = .func (.func gf) #[] lb) (hFg : F.fn gf) (eg : ∀ args w, (callFunc gf args).run P w = .ok (.enter gf args) w)
    {encs : α → Array Value} {M : Obj → Prop} {m : Nat} {S Sp : List α → Prop} {w0 : World} (hM : ∀ o : Obj, o.isCells = false → M o) (hseq : SeqM F (n - 1) P gf lb encs M m S Sp w0)
    (hm : m ≤ w.heap.size) (hb0 : Below w0.heap.size w0 w) (hps : ∀ x, (encs x).size = ps.size)
    (I : List α → World → Prop) (Ix : Code → List α → World → Prop) (hI : OwnM M w.heap.size I) (hIx : ∀ c, OwnM M w.heap.size (Ix c)) (h0 : I [] w) (ob : α → Obj) (a₁ : α → World → Act)
    (hassign : ∀ (l : Nat) (x : α) (W : World) (K : Act → World → Prop), K (a₁ x W) (W.alloc (ob x)) →
      assign.wpIn (F.inRound l) (n - 1 - 1) P (Exit.then K (fun _ _ _ => False)) { tmps := (ps.zip (encs x)).foldl (fun t (p, v) => t.setIfInBounds p v) a.tmps, defers := [] } W)
    (hbody : ∀ (l : Nat) (pre : List α) (x : α) (W0 W : World), I pre W → W.heap[W0.heap.size]? = some (ob x) → w.heap.size ≤ W0.heap.size → Sp (pre ++ [x]) → body.wpIn (F.inRound l) (n - 1 - 1) P (postM M m I Ix (pre ++ [x]) W) (a₁ x W0) W)
    (hdone : ∀ (D : Nat) (xs : List α) (W : World), w.heap.size ≤ D → S xs → I xs W → W.heap[D]? = some (.deferred (some [])) → Q .normal { a with defers := { target := .collected D, args := #[] } :: a.defers } W)
    (hstop : ∀ (D : Nat) (c : Code) (pre : List α) (W : World), w.heap.size ≤ D → Sp pre → Ix c pre W → W.heap[D]? = some (.deferred (some [])) → c.wpIn F n P Q { a with defers := { target := .collected D, args := #[] } :: a.defers } W) :
    (Code.rangeFunc g ps assign body).wpIn F n P Q a w := by
  refine wpIn_rangeFunc fun fn hfn => ?_
  rw [hro]
  -- the loop's record, and the worlds in which it lies
  let rec' : LoopState → Option Code → Loop := fun st pe => { state := st, pending := pe, fn, tmps := a.tmps, params := ps, assign, body, defers := w.heap.size }
  obtain ⟨r, hr⟩ : ∃ r, r = rec' := ⟨_, rfl⟩
  let At (st : LoopState) (pe : Option Code) (W : World) : Prop := W.heap[w.heap.size + 1]? = some (.loop (r st pe)) ∧ W.heap[w.heap.size]? = some (.deferred (some []))
  obtain ⟨W1, hW1⟩ : ∃ W1, (w.alloc (.deferred (some []))).alloc (.loop (r .ready none)) = W1 := ⟨_, rfl⟩
  have hA1 : At .ready none W1 := by
    rw [← hW1]
    constructor
    · have := World.alloc_heap_new (w.alloc (.deferred (some []))) (.loop (r .ready none)); rwa [World.size_alloc] at this
    · exact (Below.heap_alloc _ _ _ (by simp)).trans (World.alloc_heap_new w _)
  have hs1 : W1.heap.size = w.heap.size + 2 := by rw [← hW1]; simp
  have turn : ∀ {st pe W} (st' : LoopState) (pe' : Option Code), At st pe W → At st' pe' (W.putObj (w.heap.size + 1) (.loop (r st' pe'))) := fun st' pe' h =>
    ⟨World.putObj_heap_same (Array.getElem?_eq_some_iff.1 h.1).1, (World.putObj_heap_other (by omega)).trans h.2⟩
  have keeps : ∀ {st pe W W'}, At st pe W → KeepsM M W W' → At st pe W' := fun h k => ⟨k.same _ _ h.1 (hM _ rfl), k.same _ _ h.2 (hM _ rfl)⟩
  have putI : ∀ {st pe W pre} (o : Obj), I pre W → At st pe W → I pre (W.putObj (w.heap.size + 1) o) := fun o hi h => hI.put o hi (by omega) h.1 (hM _ rfl)
  have putX : ∀ {st pe W pre c} (o : Obj), Ix c pre W → At st pe W → Ix c pre (W.putObj (w.heap.size + 1) o) := fun o hi h => (hIx _).put o hi (by omega) h.1 (hM _ rfl)
  have other : ∀ {A B : World} {row : Option Nat}, A.grownBy B row → (∀ q, row = some q → W1.heap.size ≤ q ∧ ∃ o : Obj, A.heap[q]? = some o ∧ (M o ∧ o.isCells = true)) → ∀ {st pe}, At st pe A → At st pe B := fun hg' hq _ _ h =>
    ⟨(hg'.block _ (Array.getElem?_eq_some_iff.1 h.1).1 (fun e => by have := (hq _ e.symm).1; omega)).trans h.1, (hg'.block _ (Array.getElem?_eq_some_iff.1 h.2).1 (fun e => by have := (hq _ e.symm).1; omega)).trans h.2⟩
  have wider : ∀ {A : World} {row : Option Nat}, (∀ q, row = some q → W1.heap.size ≤ q ∧ ∃ o : Obj, A.heap[q]? = some o ∧ (M o ∧ o.isCells = true)) → (∀ q, row = some q → w.heap.size ≤ q ∧ ∃ o : Obj, A.heap[q]? = some o ∧ M o) := fun hq q e => by
    obtain ⟨h1, o, h2, h3, _⟩ := hq q e
    exact ⟨by omega, o, h2, h3⟩
  refine ⟨w.heap.size + 1, [{ target := .collected w.heap.size, args := #[] }], W1, { target := .fn (.func gf) lb, args := #[.func (.yield (w.heap.size + 1)) #[] #[]] }, W1, gf,
    #[.func (.yield (w.heap.size + 1)) #[] #[]] ++ lb, W1, ?_, ?_, ?_, ?_, fun _ => h1, ?_⟩
  · rw [← hW1, hr]; exact run_enterLoop_outer _ _ _ _ _
  · simp only [resolve, hg]
    simp [go_sem]
  · intro f' hf'; simp [Target.leads] at hf'; subst hf'; exact hFg
  · simp [invoke, go_sem, eg]
  have start : I [] W1 := by rw [← hW1]; exact hI.alloc _ (hI.alloc _ h0)
  have low : Below w0.heap.size w0 W1 := by
    rw [← hW1]; exact hb0.trans ((((Below.refl _ w).alloc (Nat.le_refl _) _).alloc (by simp) _).mono hb0.size)
  refine (hseq (w.heap.size + 1) (fun pre W => I pre W ∧ At .ready none W) (fun pre W => ∃ c, Ix c pre W ∧ At .done (some c) W) W1 low
    (fun s A B row hs hg' hq => ⟨hI s A B row hs.1 hg' (wider hq), other hg' hq hs.2⟩)
    (fun s A B row ⟨c, hc, hs⟩ hg' hq => ⟨c, hIx c s A B row hc hg' (wider hq), other hg' hq hs⟩)
    ?_ ⟨start, hA1⟩).mono ?_
  · rintro pre x W ⟨hi, hA⟩ hsp
    have hy := run_yield (P := P) (args := encs x) hA.1 (by rw [hr]; exact hps x)
    rw [hr] at hy
    have hlW : w.heap.size + 1 < W.heap.size := (Array.getElem?_eq_some_iff.1 hA.1).1
    have hA' : At .ready none (W.alloc (ob x)) := ⟨(Below.heap_alloc _ _ _ hlW).trans hA.1, (Below.heap_alloc _ _ _ (by omega)).trans hA.2⟩
    refine ⟨fn, _, assign, body, hy, roundIn_of_wpIn hfn (hassign _ x W _ ⟨_, run_beginRound hA'.1 (by rw [hr]), ?_⟩)⟩
    have hbusy : (Obj.loop { r .ready none with state := .busy }) = .loop (r .busy none) := by rw [hr]
    rw [hbusy]
    have hA2 := turn .busy none hA'
    refine wpIn_mono (hbody _ pre x W _ (putI _ (hI.alloc _ hi) hA') ((World.putObj_heap_other (by omega)).trans (World.alloc_heap_new W _)) (by omega) hsp) ?_
    -- a round's end: the record is put back
    have fin : ∀ (jump : Option Code) (W3 : World), KeepsM M ((W.alloc (ob x)).putObj (w.heap.size + 1) (.loop (r .busy none))) W3 →
        At .busy none W3 ∧ (Instr.endRound (w.heap.size + 1) jump).run P W3 = .ok (.bool jump.isNone) (W3.putObj (w.heap.size + 1) (.loop (r (if jump.isNone then .ready else .done) jump))) := fun jump W3 k => by
      have h3 := keeps hA2 k
      have h4 := run_endRound (P := P) jump h3.1
      refine ⟨h3, ?_⟩
      rw [hr] at h4 ⊢
      exact h4
    rintro e a3 W3 hp
    cases e with
    | normal =>
      obtain ⟨hk, hb, hi3⟩ := hp
      obtain ⟨h3, h4⟩ := fin none W3 hk
      refine ⟨_, _, h4, .inl ⟨rfl, ⟨putI _ hi3 h3, turn _ _ h3⟩, ⟨?_, ?_⟩, ?_⟩⟩
      · have := hk.size; simp at this ⊢; omega
      · intro k o hko hmo
        have hne : k ≠ w.heap.size + 1 := fun e => by subst e; rw [hA.1] at hko; cases hko; simp [Obj.isCells] at hmo
        rw [World.putObj_heap_other (by omega)]
        exact hk.same k o ((World.putObj_heap_other (by omega)).trans ((Below.heap_alloc _ _ _ (Array.getElem?_eq_some_iff.1 hko).1).trans hko)) hmo.1
      · exact ((((Below.refl m W).alloc (by omega) (ob x)).trans (belowK_b (w := w) hm (W.alloc (ob x)) _ _ _ (by omega) hA'.1 rfl rfl)).trans hb).trans (belowK_b (w := w) hm W3 _ _ _ (by omega) h3.1 rfl rfl)
    | ret => obtain ⟨h3, h4⟩ := fin (some .ret) W3 hp.1; exact ⟨_, _, h4, .inr ⟨rfl, .ret, putX _ hp.2 h3, turn _ _ h3⟩⟩
    | exit id => obtain ⟨h3, h4⟩ := fin (some (.exit id)) W3 hp.1; exact ⟨_, _, h4, .inr ⟨rfl, .exit id, putX _ hp.2 h3, turn _ _ h3⟩⟩
    | goto t => obtain ⟨h3, h4⟩ := fin (some (.goto t)) W3 hp.1; exact ⟨_, _, h4, .inr ⟨rfl, .goto t, putX _ hp.2 h3, turn _ _ h3⟩⟩
    | panic ch => exact hp.elim
    | outgrown => exact hp.elim
  · rintro e W2 ⟨⟨v, rfl⟩, (⟨xs, hS, hi, hA⟩ | ⟨pre, hSp, c, hi, hA⟩)⟩
    · refine ⟨none, _, by have := run_endLoop (P := P) hA.1 (by rw [hr]; simp [rec']); rw [hr] at this; exact this, hdone _ xs _ (Nat.le_refl _) hS (putI _ hi hA) ((World.putObj_heap_other (by omega)).trans hA.2)⟩
    · refine ⟨some c, _, by have := run_endLoop (P := P) hA.1 (by rw [hr]; simp [rec']); rw [hr] at this; exact this, hstop _ c pre _ (Nat.le_refl _) hSp (putX _ hi hA) ((World.putObj_heap_other (by omega)).trans hA.2)⟩

end Go.Proofs.Fa
