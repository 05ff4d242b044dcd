/-
  The text of an error. No condition.
-/
import Derived.Test.YtocfhejjmefmcaaDoorFaIter
import Derived.Test.YtocfhejjmefmcaaDoorFaWord
import Derived.Test.YtocfhejjmefmcaaDoorFaBuild
import Derived.Lib.SmallJoins
namespace Go.Proofs.YtocfhejjmefmcaaDoor.Fa
open Go.ChangeShapes Go.WideShapes Go.ChangeAt Go.RowKit Go.Proofs.Fa Go.Shelf
attribute [local go_sem] Oper.semAt_some

theorem Tab.below {w w' : World} (h : Tab w) (hb : Below w.heap.size w w') : Tab w' := Go.Joins.tab_stays (g := 2) (by kernel_rfl) h hb (Nat.le_refl _)
theorem WordsAt.below {w w' : World} (h : WordsAt w) (hb : Below w.heap.size w w') : WordsAt w' := fun i hi => by
  have := h i hi
  exact (hb.cell (p := ⟨1, i, none⟩) (lt_of_cell this)).trans this

theorem word_any (b : Option (Option Int)) (l : List Layer) (v : Value) (w : World) (hx : ErrAt w b l v) (hW : WordsAt w) (hT : Tab w) :
    Calls Tryd.prog 45 #[v] w fun e w' => e = .returned (.string (wordK b l)) ∧ Below w.heap.size w w' := by
  match l, hx with
  | [], hx =>
    have hx' : v = baseV b := hx
    subst hx'
    rcases b with _ | _ | n
    · refine (word_none w).mono ?_; rintro e w' ⟨rfl, rfl⟩; exact ⟨rfl, Below.refl _ _⟩
    · refine (word_nil w).mono ?_; rintro e w' ⟨rfl, rfl⟩; exact ⟨rfl, Below.refl _ _⟩
    · refine (word_errno n w hW).mono ?_; rintro e w' ⟨rfl, rfl⟩; exact ⟨rfl, Below.refl _ _⟩
  | y :: r, hx =>
    rcases hx with ⟨hj, g, cap, u, rfl, _⟩ | ⟨hj, g, u, rfl, hh, _⟩
    · refine (word_many _ w).mono ?_
      rintro e w' ⟨rfl, rfl⟩
      exact ⟨by cases b <;> simp [wordK, hj], Below.refl _ _⟩
    · refine (word_fault g y.op y.pos u w hh y.lo y.hi y.sz hT).mono ?_
      rintro e w' ⟨rfl, hb⟩
      exact ⟨by cases b <;> simp [wordK, hj], hb⟩

set_option maxRecDepth 100000
set_option maxHeartbeats 2000000
/-- The text of these. -/
def textOf : List Key → List UInt8
  | [] => []
  | k :: r => k.1.data.toList ++ (wordK k.2.1 k.2.2).data.toList ++ textOf r

theorem textOf_append (a b : List Key) : textOf (a ++ b) = textOf a ++ textOf b := by induction a with
  | nil => rfl
  | cons k a ih => simp [textOf, ih]
theorem textOf_prefix {a b : List Key} (h : a <+: b) : (textOf a).length ≤ (textOf b).length := by
  obtain ⟨r, rfl⟩ := h; rw [textOf_append]; simp
theorem words_len : wordsL.all (fun s => decide (s.length ≤ 20)) = true := by kernel_rfl
theorem wordF_size (n : Int) : (wordF n).size ≤ 20 := by
  unfold wordF
  split
  · show (wordsL.getD n.toNat []).toArray.size ≤ 20
    rw [List.size_toArray, List.getD_eq_getElem?_getD]
    cases h : wordsL[n.toNat]? with
    | none => simp
    | some s => have := List.all_eq_true.1 words_len s (List.mem_of_getElem? h); simpa using this
  · decide
theorem ba_append_size (a b : ByteArray) : (a ++ b).size = a.size + b.size := ByteArray.size_append
theorem wordK_size (b : Option (Option Int)) (l : List Layer) : (wordK b l).size ≤ 1030 := by
  match b, l with
  | none, [] => decide
  | some none, [] => decide
  | some (some n), [] => have := wordF_size n; simp only [wordK]; omega
  | b, y :: r =>
    have hw : wordK b (y :: r) = if y.join = true then ⟨#[]⟩ else faultW y.op y.pos := by rcases b with _ | _ | _ <;> rfl
    rw [hw]
    split
    · decide
    · have h1 := Lib.itoa_length_le y.pos y.lo y.hi
      have h2 := y.sz
      have h3 : (itoaB y.pos).size ≤ 21 := h1
      have h4 : (⟨#[32]⟩ : ByteArray).size = 1 := rfl
      have h5 : (⟨#[58, 32]⟩ : ByteArray).size = 2 := rfl
      rw [faultW, ba_append_size, ba_append_size, ba_append_size]
      omega
theorem textOf_flat (l : List Layer) (a : ByteArray) (ha : a.size ≤ 2) (b : Option (Option Int)) : (textOf (flat l a b)).length ≤ 2064 * l.length + 1032 := by
  have one : ∀ (x : ByteArray) (b : Option (Option Int)) (q : List Layer), x.size ≤ 2 → (textOf [(x, b, q)]).length ≤ 1032 := fun x b q hx => by
    have h1 := wordK_size b q
    have h2 : (wordK b q).data.toList.length = (wordK b q).size := rfl
    have h3 : x.data.toList.length = x.size := rfl
    simp only [textOf, List.length_append, List.length_nil, h2, h3]
    omega
  induction l generalizing a with
  | nil => simpa [flat] using one a b [] ha
  | cons y r ih =>
    have h1 := ih ⟨#[]⟩ (by decide)
    have h2 := one a b (y :: r) ha
    have h3 := one sep (some (some y.k)) [] (by decide)
    have hs : flat (y :: r) a b = [(a, b, y :: r)] ++ (flat r ⟨#[]⟩ b ++ if y.join = true then [(sep, some (some y.k), [])] else []) := rfl
    rw [hs, textOf_append, textOf_append]
    simp only [List.length_append, List.length_cons]
    split
    · omega
    · rw [show (textOf ([] : List Key)).length = 0 from rfl]; omega

theorem builder_own {β : Type} (B b C : Nat) (f : β → List Value) : OwnM M C (fun s W => Lib.IsBuilder 99 5 B b (f s) W) := by
  have one : ∀ (p : Value) (bs : List Value) (W W' : World) (row : Option Nat), Lib.BuilderAt 99 5 B b p bs W → W.grownBy W' row → (∀ r, row = some r → C ≤ r ∧ ∃ o : Obj, W.heap[r]? = some o ∧ M o) → Lib.BuilderAt 99 5 B b p bs W' := by
    rintro p bs W W' row ⟨h1, v, hb, ho, hn⟩ hg hr
    have no : ∀ k c (t : TypeId) m, W.heap[k]? = some (.cells c t m) → t ≠ 94 → some k ≠ row := by
      intro k c t m hk ht e
      obtain ⟨_, o, h2, h3⟩ := hr k e.symm
      rw [hk] at h2
      cases h2
      rcases h3 with h3 | ⟨c', m', h3⟩
      · cases h3
      · cases h3; exact ht rfl
    refine ⟨h1, v, (hg.block b (lt_of_heap hb) (no b _ _ _ hb (by decide))).trans hb, ho.kept hg ?_, hn⟩
    rcases ho.2 with ⟨rfl, _⟩ | ⟨g, cap, cur, rfl, _, hh, _⟩
    · exact .inl rfl
    · exact .inr (no g _ _ _ hh (by decide))
  intro s W W' row h hg hr
  rcases h with h | h
  · exact .inl (one _ _ _ _ _ h hg hr)
  · exact .inr (one _ _ _ _ _ h hg hr)
theorem keepsM_others {B b : Nat} {bs : List Value} {W W' : World} (hb : Lib.IsBuilder 99 5 B b bs W) (h : Lib.OthersKept 5 (some b) W W') (hB : Below B W W') : KeepsM M W W' := by
  refine ⟨hB.size, ?_⟩
  intro k o hk hm
  refine h k o hk ?_ ?_
  · intro e
    cases e
    have : ∃ p v, W.heap[b]? = some (.cells #[p, v] 99 (0, 0)) := by
      rcases hb with ⟨_, v, hb, _⟩ | ⟨_, v, hb, _⟩ <;> exact ⟨_, _, hb⟩
    obtain ⟨p, v, h2⟩ := this
    rw [hk] at h2
    cases h2
    rcases hm with h3 | ⟨c', m', h3⟩ <;> cases h3
  · intro c fz e
    subst e
    rcases hm with h3 | ⟨c', m', h3⟩ <;> cases h3

theorem builder_below {B b : Nat} {bs : List Value} {W W' : World} (h : Lib.IsBuilder 99 5 B b bs W) (hb : Below W.heap.size W W') : Lib.IsBuilder 99 5 B b bs W' := by
  have hg : W.grownBy W' none := ⟨hb.os, hb.tape, hb.output, hb.size, fun k hk _ => hb.block k hk⟩
  exact builder_own B b 0 (fun (_ : Unit) => bs) () W W' none h hg (fun r e => by cases e)

theorem text_any (b : Option (Option Int)) (l : List Layer) (v : Value) (w : World) (hl : l.length ≤ 1000) (hx : ErrAt w b l v) (hW : WordsAt w) (hT : Tab w) :
    Calls Tryd.prog 31 #[v] w fun e w' => e = .returned (.string ⟨(textOf (flat l ⟨#[]⟩ b)).toArray⟩) ∧ Below w.heap.size w w' := by
  have hI := hx.isI
  have HX : Hid (ErrAt w b l v) := hx
  have HW : Hid (WordsAt w) := hW
  have HT : Hid (Tab w) := hT
  clear hx hW hT
  refine (callsIn_wide (n := 9)).1 ?_
  refine callsIn_of_wp_marks Tryd.func31 rfl trivial ?_ rfl
  simp only [Tryd.ntmps31, List.size_toArray, List.length_cons, List.length_nil, Nat.reduceAdd, Nat.reduceSub, Array.replicate_succ, Array.replicate_zero, List.push_toArray, List.append_toArray, List.nil_append, List.cons_append]
  gi_wp2_with (refine ⟨trivial, ?_⟩; gi_at_call 28; refine (callsIn_wide.2 (all_any _ hI _)).mono ?_; rintro e w' ⟨rfl, rfl⟩)
  have hsz : (w.alloc (.cells #[.pointer none, .slice none 0 0] 99)).heap.size = w.heap.size + 1 := by simp
  have hbel : Below w.heap.size w ((w.alloc (.cells #[.pointer none, .slice none 0 0] 99)).alloc (.cells #[v] 25)) := ((Below.refl _ w).alloc (Nat.le_refl _) _).alloc (by simp) _
  refine rangeM (α := It w) rfl (by decide) (gf := 42) (lb := #[.pointer (some ⟨w.heap.size + 1, 0, none⟩)]) rfl trivial (enters_of Tryd.func42 (by kernel_rfl) rfl) M_other
    (all1_seq _ w _ (w.heap.size + 1) b l v hl HX.out hbel (by have h := cell_of_heap (heap_alloc_new (w.alloc (.cells #[.pointer none, .slice none 0 0] 99)) (.cells #[v] 25)) 0 v rfl; rw [hsz] at h; exact h)) (by simp; omega) (Below.refl _ _) (fun _ => rfl)
    (fun pre W => Lib.IsBuilder 99 5 w.heap.size w.heap.size (Lib.byteCells (textOf (pre.map It.key))) W ∧ Below w.heap.size w W) (fun _ _ _ => False)
    (OwnM.and (builder_own _ _ _ _) (ownM_below (Nat.le_refl _) (by simp; omega))) (fun _ _ _ _ _ hs _ _ => hs) ⟨.inl ⟨Nat.le_refl _, .slice none 0 0, (Below.heap_alloc _ _ _ (by simp)).trans (heap_alloc_new w _), World.ownsRow_nil _ _ _ _, by simp [Value.ownBlock]⟩, hbel⟩
    (fun x => { tmps := #[v, undef, .string ⟨#[]⟩, .pointer (some ⟨w.heap.size, 0, none⟩), .string x.1.ahead, x.1.v, v, .func (.func 42) #[] #[.pointer (some ⟨w.heap.size + 1, 0, none⟩)], .string x.1.ahead, x.1.v, undef, undef, undef, undef, undef, undef], defers := [] }) ?assign ?body ?done ?stop
  case assign =>
    intro lp x W K hK
    simp only [encs]
    gi_wp2
    exact hK
  case body =>
    rintro lp pre ⟨⟨xa, xb, xl, xv⟩, hxa⟩ W ⟨hb, hbw⟩ hsp
    have Hb : Hid (Lib.IsBuilder 99 5 w.heap.size w.heap.size (Lib.byteCells (textOf (pre.map It.key))) W) := hb
    have Hbw : Hid (Below w.heap.size w W) := hbw
    have hlen : (textOf (pre.map It.key)).length + xa.size + (wordK xb xl).size ≤ 5000000 := by
      have h1 := Nat.le_trans (textOf_prefix hsp) (textOf_flat l ⟨#[]⟩ (by decide) b)
      rw [List.map_append, textOf_append, List.length_append] at h1
      have h2 : (textOf ([⟨⟨xa, xb, xl, xv⟩, hxa⟩].map (It.key (w0 := w)))).length = xa.size + (wordK xb xl).size := by simp only [List.map, It.key, Item.key, textOf, List.append_nil, List.length_append]; rfl
      omega
    clear hb hbw hsp
    dsimp only
    gi_wp2_with fail
    refine ⟨trivial, ?_⟩
    refine (CallsIn.inRound lp (callsIn_wide.2 (write_any _ _ _ xa _ Hb.out (by omega) Hbw.out.size))).mono ?_
    rintro e w1 ⟨⟨r, rfl⟩, hb1, hl1, hk1⟩
    have K1 : Hid (KeepsM M W w1) := keepsM_others Hb.out hk1 hl1
    have L1 : Hid (Below w.heap.size W w1) := hl1
    have hw1 : Below w.heap.size w w1 := Hbw.out.trans hl1
    have E1 : Hid (ErrAt w1 xb xl xv) := ErrAt.below hw1 hxa
    have W1 : Hid (WordsAt w1) := HW.out.below hw1
    have T1 : Hid (Tab w1) := HT.out.below hw1
    have Hw1 : Hid (Below w.heap.size w w1) := hw1
    have Hb1 : Hid (Lib.IsBuilder 99 5 w.heap.size w.heap.size (Lib.byteCells (textOf (pre.map It.key) ++ xa.data.toList)) w1) := hb1
    clear hb1 hl1 hk1 hw1 Hb
    gi_wp2_with fail
    refine ⟨trivial, ?_⟩
    refine (CallsIn.inRound lp (callsIn_wide.2 (word_any xb xl xv w1 E1.out W1.out T1.out))).mono ?_
    rintro e w2 ⟨rfl, hb2⟩
    have K2 : Hid (KeepsM M W w2) := K1.out.trans (keepsM_below hb2)
    have L2 : Hid (Below w.heap.size W w2) := L1.out.trans (hb2.mono Hw1.out.size)
    have Hb2 := builder_below Hb1.out hb2
    have hs2 : w.heap.size ≤ w2.heap.size := Nat.le_trans Hw1.out.size hb2.size
    have hlen2 : (textOf (pre.map It.key) ++ xa.data.toList).length + (wordK xb xl).size ≤ 1000000000 := by
      have h : xa.data.toList.length = xa.size := rfl
      rw [List.length_append, h]; omega
    clear hb2 K1 L1 E1 W1 T1 Hb1
    gi_wp2_with fail
    refine ⟨trivial, ?_⟩
    refine (CallsIn.inRound lp (callsIn_wide.2 (write_any _ _ _ (wordK xb xl) _ Hb2 hlen2 hs2))).mono ?_
    rintro e w3 ⟨⟨r2, rfl⟩, hb3, hl3, hk3⟩
    have K3 : Hid (KeepsM M W w3) := K2.out.trans (keepsM_others Hb2 hk3 hl3)
    have L3 : Hid (Below w.heap.size W w3) := L2.out.trans hl3
    have Hb3 : Hid (Lib.IsBuilder 99 5 w.heap.size w.heap.size (Lib.byteCells (textOf ((pre ++ [(⟨⟨xa, xb, xl, xv⟩, hxa⟩ : It w)]).map It.key))) w3) := by
      show Lib.IsBuilder _ _ _ _ _ _
      have h : textOf ((pre ++ [(⟨⟨xa, xb, xl, xv⟩, hxa⟩ : It w)]).map It.key) = textOf (pre.map It.key) ++ xa.data.toList ++ (wordK xb xl).data.toList := by
        rw [List.map_append, textOf_append]; simp [textOf, It.key, Item.key]
      rw [h]; exact hb3
    clear hb3 hl3 hk3 Hb2 K2 L2
    gi_wp2
    exact ⟨K3.out, L3.out, Hb3.out, Hbw.out.trans L3.out⟩
  case done =>
    rintro D ys W hD hys ⟨hb, hbw⟩ hK
    rw [hys] at hb
    have hDn : ¬ D = w.heap.size := by simp at hD; omega
    have hD2 : w.heap.size ≤ D := by simp at hD; omega
    gi_wp2_with fail
    refine ⟨trivial, ?_⟩
    refine (callsIn_wide.2 (Tryd.Builder_String_any_k _ _ _ _ (Lib.IsBuilderF.of hb) hbw.size)).mono ?_
    rintro e w1 ⟨rfl, _, hl1, hk1⟩
    have hK1 : w1.heap[D]? = some (.deferred (some [])) := hk1 D _ hK (fun e => hDn (Option.some.inj e)) (fun c fz e => by cases e)
    have HB : Hid (Below w.heap.size w w1) := hbw.trans hl1
    clear hk1 hl1 hK hb hbw
    gi_wp2
    refine ⟨by simp, .inl ⟨_, _, rfl, run_takeDeferred hK1, ?_⟩⟩
    exact ⟨_, results_tmp rfl _ _ _, rfl, HB.out.trans (belowK_b (w := w) (Nat.le_refl _) w1 D _ _ hD2 hK1 rfl rfl)⟩
  case stop =>
    rintro D c pre W _ _ h _
    exact h.elim

end Go.Proofs.YtocfhejjmefmcaaDoor.Fa
