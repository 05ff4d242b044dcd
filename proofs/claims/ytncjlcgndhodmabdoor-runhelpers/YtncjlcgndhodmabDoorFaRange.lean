/-
  A range over a function whose iterator keeps what waits in cells of its own: blocks of a kind that no caller of it has (M). No condition.
-/
import Derived.RangeFuncNested
import Derived.RangeFuncBound
import Derived.RangeFuncCalls
import Derived.RangeFuncLeaves
import Derived.RangeFuncFrom
import Derived.Below
namespace Go.Proofs.Fa
open Go Go.RowKit

/-- I holds on, whatever block of the kind M from B on is turned, and whatever new blocks are laid. -/
def OwnM {β : Type} (M : Obj → Prop) (B : Nat) (I : β → World → Prop) : Prop :=
  ∀ s W W' row, I s W → W.grownBy W' row → (∀ r, row = some r → B ≤ r ∧ ∃ o : Obj, W.heap[r]? = some o ∧ M o) → I s W'

theorem OwnM.put {β : Type} {M : Obj → Prop} {B : Nat} {I : β → World → Prop} (h : OwnM M B I) {s : β} {W : World} {l : Nat} {o : Obj} (o' : Obj) (hs : I s W) (hB : B ≤ l) (hl : W.heap[l]? = some o) (ho : M o) : I s (W.putObj l o') :=
  h s W _ (some l) hs (grownBy_putObj' W l o') (fun r e => by cases e; exact ⟨hB, o, hl, ho⟩)
theorem OwnM.alloc {β : Type} {M : Obj → Prop} {B : Nat} {I : β → World → Prop} (h : OwnM M B I) {s : β} {W : World} (o : Obj) (hs : I s W) : I s (W.alloc o) :=
  h s W _ none hs (World.grownBy_alloc W o none) (fun r e => by cases e)
theorem OwnM.and {β : Type} {M : Obj → Prop} {B : Nat} {I I' : β → World → Prop} (h : OwnM M B I) (h' : OwnM M B I') : OwnM M B (fun s W => I s W ∧ I' s W) :=
  fun s W W' row hs hg hr => ⟨h s W W' row hs.1 hg hr, h' s W W' row hs.2 hg hr⟩
theorem ownM_below {β : Type} {M : Obj → Prop} {m B : Nat} {w : World} (hm : m ≤ w.heap.size) (hB : m ≤ B) : OwnM M B (fun (_ : β) W => Below m w W) :=
  fun _ _ _ _ hs hg hr => hs.grown hg (Nat.le_trans hm hs.size) (fun k e => Nat.le_trans hB (hr k e).1)
theorem ownM_true {β : Type} {M : Obj → Prop} {B : Nat} {p : β → Prop} : OwnM M B (fun s _ => p s) := fun _ _ _ _ hs _ _ => hs

/-- What a round keeps: every block of the kind M. -/
structure KeepsM (M : Obj → Prop) (W W' : World) : Prop where
  size : W.heap.size ≤ W'.heap.size
  same : ∀ (k : Nat) (o : Obj), W.heap[k]? = some o → M o → W'.heap[k]? = some o

theorem KeepsM.refl (M : Obj → Prop) (W : World) : KeepsM M W W := ⟨Nat.le_refl _, fun _ _ h _ => h⟩
theorem KeepsM.trans {M : Obj → Prop} {A B C : World} (h : KeepsM M A B) (k : KeepsM M B C) : KeepsM M A C := ⟨Nat.le_trans h.size k.size, fun i o hi ho => k.same i o (h.same i o hi ho) ho⟩
theorem KeepsM.grown {M : Obj → Prop} {W W' : World} {row : Option Nat} (hg : W.grownBy W' row) (hrow : ∀ j, row = some j → ∀ o : Obj, W.heap[j]? = some o → ¬ M o) : KeepsM M W W' :=
  ⟨hg.size, fun k o hk hm => (hg.block k (Array.getElem?_eq_some_iff.1 hk).1 (fun e => hrow k e.symm o hk hm)).trans hk⟩

/-- How a round's body is left. -/
def postM {α : Type} (M : Obj → Prop) (m : Nat) (I : List α → World → Prop) (Ix : Code → List α → World → Prop) (xs : List α) (W : World) : Exit → Act → World → Prop
  | .normal, _, W' => KeepsM M W W' ∧ Below m W W' ∧ I xs W'
  | .ret, _, W' => KeepsM M W W' ∧ Ix .ret xs W'
  | .exit id, _, W' => KeepsM M W W' ∧ Ix (.exit id) xs W'
  | .goto t, _, W' => KeepsM M W W' ∧ Ix (.goto t) xs W'
  | .panic _, _, _ => False
  | .outgrown, _, _ => False

/-- The iterator's promise: whoever calls it with rounds that keep what is of the kind M (cells) and what lies below m. -/
def SeqM {α : Type} (F : Fence) (n : Nat) (P : Program) (g : Nat) (lb : Array Value) (encs : α → Array Value) (M : Obj → Prop) (m : Nat) (S Sp : List α → Prop) (w : World) : Prop :=
  ∀ (l : Nat) (J Jx : List α → World → Prop) (W : World), Below w.heap.size w W → OwnM (fun o => M o ∧ o.isCells = true) W.heap.size J → OwnM (fun o => M o ∧ o.isCells = true) W.heap.size Jx →
    (∀ pre x W1, J pre W1 → Sp (pre ++ [x]) → YieldAt F (n - 1) P l (encs x) W1 fun e W' =>
      (e = .returned (.bool true) ∧ J (pre ++ [x]) W' ∧ KeepsM (fun o => M o ∧ o.isCells = true) W1 W' ∧ Below m W1 W') ∨ (e = .returned (.bool false) ∧ Jx (pre ++ [x]) W')) →
    J [] W →
    CallsIn F n P g (#[.func (.yield l) #[] #[]] ++ lb) W fun e W' => (∃ v, e = .returned v) ∧ ((∃ xs, S xs ∧ J xs W') ∨ (∃ pre, Sp pre ∧ Jx pre W'))

variable {F : Fence} {n : Nat} {P : Program}

theorem rangeM {α : Type} {g : Operand} {ps : Array Tmp} {assign body : Code} {Q : Exit → Act → World → Prop} {a : Act} {w : World}
    (hro : F.round = none) (h1 : 1 ≤ n) {gf : Nat} {lb : Array Value} (hg : a.eval g = .func (.func gf) #[] lb) (hFg : F.fn gf) (eg : ∀ args w, (callFunc gf args).run P w = .ok (.enter gf args) w)
    {encs : α → Array Value} {M : Obj → Prop} {m : Nat} {S Sp : List α → Prop} {w0 : World} (hM : ∀ o : Obj, o.isCells = false → M o) (hseq : SeqM F (n - 1) P gf lb encs M m S Sp w0)
    (hm : m ≤ w.heap.size) (hb0 : Below w0.heap.size w0 w) (hps : ∀ x, (encs x).size = ps.size)
    (I : List α → World → Prop) (Ix : Code → List α → World → Prop) (hI : OwnM M w.heap.size I) (hIx : ∀ c, OwnM M w.heap.size (Ix c)) (h0 : I [] w) (a₁ : α → Act)
    (hassign : ∀ (l : Nat) (x : α) (W : World) (K : Act → World → Prop), K (a₁ x) W →
      assign.wpIn (F.inRound l) (n - 1 - 1) P (Exit.then K (fun _ _ _ => False)) { tmps := (ps.zip (encs x)).foldl (fun t (p, v) => t.setIfInBounds p v) a.tmps, defers := [] } W)
    (hbody : ∀ (l : Nat) (pre : List α) (x : α) (W : World), I pre W → Sp (pre ++ [x]) → body.wpIn (F.inRound l) (n - 1 - 1) P (postM M m I Ix (pre ++ [x]) W) (a₁ x) W)
    (hdone : ∀ (D : Nat) (xs : List α) (W : World), w.heap.size ≤ D → S xs → I xs W → W.heap[D]? = some (.deferred (some [])) → Q .normal { a with defers := { target := .collected D, args := #[] } :: a.defers } W)
    (hstop : ∀ (D : Nat) (c : Code) (pre : List α) (W : World), w.heap.size ≤ D → Sp pre → Ix c pre W → W.heap[D]? = some (.deferred (some [])) → c.wpIn F n P Q { a with defers := { target := .collected D, args := #[] } :: a.defers } W) :
    (Code.rangeFunc g ps assign body).wpIn F n P Q a w := by
  refine wpIn_rangeFunc fun fn hfn => ?_
  rw [hro]
  -- the loop's record, and the worlds in which it lies
  let rec' : LoopState → Option Code → Loop := fun st pe => { state := st, pending := pe, fn, tmps := a.tmps, params := ps, assign, body, defers := w.heap.size }
  obtain ⟨r, hr⟩ : ∃ r, r = rec' := ⟨_, rfl⟩
  let At (st : LoopState) (pe : Option Code) (W : World) : Prop := W.heap[w.heap.size + 1]? = some (.loop (r st pe)) ∧ W.heap[w.heap.size]? = some (.deferred (some []))
  obtain ⟨W1, hW1⟩ : ∃ W1, (w.alloc (.deferred (some []))).alloc (.loop (r .ready none)) = W1 := ⟨_, rfl⟩
  have hA1 : At .ready none W1 := by
    rw [← hW1]
    constructor
    · have := World.alloc_heap_new (w.alloc (.deferred (some []))) (.loop (r .ready none)); rwa [World.size_alloc] at this
    · exact (Below.heap_alloc _ _ _ (by simp)).trans (World.alloc_heap_new w _)
  have hs1 : W1.heap.size = w.heap.size + 2 := by rw [← hW1]; simp
  have turn : ∀ {st pe W} (st' : LoopState) (pe' : Option Code), At st pe W → At st' pe' (W.putObj (w.heap.size + 1) (.loop (r st' pe'))) := fun st' pe' h =>
    ⟨World.putObj_heap_same (Array.getElem?_eq_some_iff.1 h.1).1, (World.putObj_heap_other (by omega)).trans h.2⟩
  have keeps : ∀ {st pe W W'}, At st pe W → KeepsM M W W' → At st pe W' := fun h k => ⟨k.same _ _ h.1 (hM _ rfl), k.same _ _ h.2 (hM _ rfl)⟩
  have putI : ∀ {st pe W pre} (o : Obj), I pre W → At st pe W → I pre (W.putObj (w.heap.size + 1) o) := fun o hi h => hI.put o hi (by omega) h.1 (hM _ rfl)
  have putX : ∀ {st pe W pre c} (o : Obj), Ix c pre W → At st pe W → Ix c pre (W.putObj (w.heap.size + 1) o) := fun o hi h => (hIx _).put o hi (by omega) h.1 (hM _ rfl)
  have other : ∀ {A B : World} {row : Option Nat}, A.grownBy B row → (∀ q, row = some q → W1.heap.size ≤ q ∧ ∃ o : Obj, A.heap[q]? = some o ∧ (M o ∧ o.isCells = true)) → ∀ {st pe}, At st pe A → At st pe B := fun hg' hq _ _ h =>
    ⟨(hg'.block _ (Array.getElem?_eq_some_iff.1 h.1).1 (fun e => by have := (hq _ e.symm).1; omega)).trans h.1, (hg'.block _ (Array.getElem?_eq_some_iff.1 h.2).1 (fun e => by have := (hq _ e.symm).1; omega)).trans h.2⟩
  have wider : ∀ {A : World} {row : Option Nat}, (∀ q, row = some q → W1.heap.size ≤ q ∧ ∃ o : Obj, A.heap[q]? = some o ∧ (M o ∧ o.isCells = true)) → (∀ q, row = some q → w.heap.size ≤ q ∧ ∃ o : Obj, A.heap[q]? = some o ∧ M o) := fun hq q e => by
    obtain ⟨h1, o, h2, h3, _⟩ := hq q e
    exact ⟨by omega, o, h2, h3⟩
  refine ⟨w.heap.size + 1, [{ target := .collected w.heap.size, args := #[] }], W1, { target := .fn (.func gf) lb, args := #[.func (.yield (w.heap.size + 1)) #[] #[]] }, W1, gf,
    #[.func (.yield (w.heap.size + 1)) #[] #[]] ++ lb, W1, ?_, ?_, ?_, ?_, fun _ => h1, ?_⟩
  · rw [← hW1, hr]; exact run_enterLoop_outer _ _ _ _ _
  · simp only [resolve, hg]
    simp [go_sem]
  · intro f' hf'; simp [Target.leads] at hf'; subst hf'; exact hFg
  · simp [invoke, go_sem, eg]
  have start : I [] W1 := by rw [← hW1]; exact hI.alloc _ (hI.alloc _ h0)
  have low : Below w0.heap.size w0 W1 := by
    rw [← hW1]; exact hb0.trans ((((Below.refl _ w).alloc (Nat.le_refl _) _).alloc (by simp) _).mono hb0.size)
  refine (hseq (w.heap.size + 1) (fun pre W => I pre W ∧ At .ready none W) (fun pre W => ∃ c, Ix c pre W ∧ At .done (some c) W) W1 low
    (fun s A B row hs hg' hq => ⟨hI s A B row hs.1 hg' (wider hq), other hg' hq hs.2⟩)
    (fun s A B row ⟨c, hc, hs⟩ hg' hq => ⟨c, hIx c s A B row hc hg' (wider hq), other hg' hq hs⟩)
    ?_ ⟨start, hA1⟩).mono ?_
  · rintro pre x W ⟨hi, hA⟩ hsp
    have hy := run_yield (P := P) (args := encs x) hA.1 (by rw [hr]; exact hps x)
    rw [hr] at hy
    refine ⟨fn, _, assign, body, hy, roundIn_of_wpIn hfn (hassign _ x W _ ⟨_, run_beginRound hA.1 (by rw [hr]), ?_⟩)⟩
    have hbusy : (Obj.loop { r .ready none with state := .busy }) = .loop (r .busy none) := by rw [hr]
    rw [hbusy]
    have hA2 := turn .busy none hA
    refine wpIn_mono (hbody _ pre x _ (putI _ hi hA) hsp) ?_
    -- a round's end: the record is put back
    have fin : ∀ (jump : Option Code) (W3 : World), KeepsM M (W.putObj (w.heap.size + 1) (.loop (r .busy none))) W3 →
        At .busy none W3 ∧ (Instr.endRound (w.heap.size + 1) jump).run P W3 = .ok (.bool jump.isNone) (W3.putObj (w.heap.size + 1) (.loop (r (if jump.isNone then .ready else .done) jump))) := fun jump W3 k => by
      have h3 := keeps hA2 k
      have h4 := run_endRound (P := P) jump h3.1
      refine ⟨h3, ?_⟩
      rw [hr] at h4 ⊢
      exact h4
    rintro e a3 W3 hp
    cases e with
    | normal =>
      obtain ⟨hk, hb, hi3⟩ := hp
      obtain ⟨h3, h4⟩ := fin none W3 hk
      refine ⟨_, _, h4, .inl ⟨rfl, ⟨putI _ hi3 h3, turn _ _ h3⟩, ⟨?_, ?_⟩, ?_⟩⟩
      · have := hk.size; simpa using this
      · intro k o hko hmo
        have hne : k ≠ w.heap.size + 1 := fun e => by subst e; rw [hA.1] at hko; cases hko; simp [Obj.isCells] at hmo
        rw [World.putObj_heap_other (by omega)]
        exact hk.same k o ((World.putObj_heap_other (by omega)).trans hko) hmo.1
      · exact ((belowK_b (w := w) hm W _ _ _ (by omega) hA.1 rfl rfl).trans hb).trans (belowK_b (w := w) hm W3 _ _ _ (by omega) h3.1 rfl rfl)
    | ret => obtain ⟨h3, h4⟩ := fin (some .ret) W3 hp.1; exact ⟨_, _, h4, .inr ⟨rfl, .ret, putX _ hp.2 h3, turn _ _ h3⟩⟩
    | exit id => obtain ⟨h3, h4⟩ := fin (some (.exit id)) W3 hp.1; exact ⟨_, _, h4, .inr ⟨rfl, .exit id, putX _ hp.2 h3, turn _ _ h3⟩⟩
    | goto t => obtain ⟨h3, h4⟩ := fin (some (.goto t)) W3 hp.1; exact ⟨_, _, h4, .inr ⟨rfl, .goto t, putX _ hp.2 h3, turn _ _ h3⟩⟩
    | panic ch => exact hp.elim
    | outgrown => exact hp.elim
  · rintro e W2 ⟨⟨v, rfl⟩, (⟨xs, hS, hi, hA⟩ | ⟨pre, hSp, c, hi, hA⟩)⟩
    · refine ⟨none, _, by have := run_endLoop (P := P) hA.1 (by rw [hr]; simp [rec']); rw [hr] at this; exact this, hdone _ xs _ (Nat.le_refl _) hS (putI _ hi hA) ((World.putObj_heap_other (by omega)).trans hA.2)⟩
    · refine ⟨some c, _, by have := run_endLoop (P := P) hA.1 (by rw [hr]; simp [rec']); rw [hr] at this; exact this, hstop _ c pre _ (Nat.le_refl _) hSp (putX _ hi hA) ((World.putObj_heap_other (by omega)).trans hA.2)⟩

end Go.Proofs.Fa
