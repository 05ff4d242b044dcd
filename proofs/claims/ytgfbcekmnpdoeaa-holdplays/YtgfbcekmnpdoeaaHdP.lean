/-
  Layer 15's holds as plain lists: who is inside, what is held; and the map of those who are inside, as it lies in memory. No condition.
-/
import Derived.Test.YtgfbcekmnpdoeaaHdM
namespace Go.Proofs.Ytgfbcekmnpdoeaa.Hd
open Go.ChangeShapes Go.WideShapes Go.ChangeAt Go.RowKit
open Go.Maps (Keyed int_keyed keyOf_int_mk)
open Go.Proofs.Ytgfbcekmnpdoeaa.Nv (Turn Grow lt_of_heap lt_of_cell cell_of_heap free_of_heap)

/-- Holds: the last ticket, who is inside, the eldest, what is held. -/
structure HS (α : Type) where
  last : Int
  m : List Int
  eld : Int
  l : List (α × Int)

/-- The first of those inside; with nobody inside the next ticket. -/
def lo (m : List Int) (last : Int) : Int := m.headD (last + 1)
def strike (m : List Int) (t : Int) : List Int := m.filter (fun x => decide (x ≠ t))
def freeN {α : Type} (l : List (α × Int)) (e : Int) : Nat := (l.takeWhile (fun d => decide (d.2 < e))).length
def enterF {α : Type} (s : HS α) : HS α := { s with last := s.last + 1, m := s.m ++ [s.last + 1] }
def leaveF {α : Type} (s : HS α) (t : Int) : HS α := { s with m := strike s.m t, eld := lo (strike s.m t) s.last, l := s.l.drop (freeN s.l (lo (strike s.m t) s.last)) }
def leaveL {α : Type} (s : HS α) (t : Int) : List α := (s.l.take (freeN s.l (lo (strike s.m t) s.last))).map Prod.fst
def dropF {α : Type} (s : HS α) (xs : List α) : HS α := { s with l := s.l ++ xs.map (fun x => (x, s.last)) }

/-- What holds of any holds. -/
structure Ok {α : Type} (s : HS α) : Prop where
  last0 : 0 ≤ s.last
  lastB : s.last ≤ 1000
  eld0 : 0 ≤ s.eld
  eldB : s.eld ≤ s.last + 1
  asc : s.m.Pairwise (· < ·)
  inn : ∀ t ∈ s.m, s.eld ≤ t ∧ 1 ≤ t ∧ t ≤ s.last
  len : s.l.length ≤ 5000

theorem Ok.new {α : Type} : Ok (⟨0, [], 0, []⟩ : HS α) := ⟨(by decide : (0 : Int) ≤ 0), (by decide : (0 : Int) ≤ 1000), (by decide : (0 : Int) ≤ 0), (by decide : (0 : Int) ≤ 0 + 1), List.Pairwise.nil, (fun _ h => nomatch h), Nat.zero_le _⟩
theorem Ok.enter {α : Type} {s : HS α} (h : Ok s) (hl : s.last ≤ 999) : Ok (enterF s) := by
  refine ⟨by show 0 ≤ s.last + 1; have := h.last0; omega, by show s.last + 1 ≤ 1000; omega, h.eld0, by show s.eld ≤ s.last + 1 + 1; have := h.eldB; omega, ?_, ?_, h.len⟩
  · show (s.m ++ [s.last + 1]).Pairwise (· < ·)
    rw [List.pairwise_append]
    refine ⟨h.asc, List.pairwise_singleton _ _, fun a ha b hb => ?_⟩
    simp only [List.mem_cons, List.not_mem_nil, or_false] at hb
    subst hb
    have := (h.inn a ha).2.2
    omega
  · intro t ht
    show s.eld ≤ t ∧ 1 ≤ t ∧ t ≤ s.last + 1
    have h0 := h.last0
    have hB := h.eldB
    rcases List.mem_append.1 ht with ht | ht
    · have := h.inn t ht; omega
    · simp only [List.mem_cons, List.not_mem_nil, or_false] at ht
      subst ht
      omega
theorem mem_strike {m : List Int} {t x : Int} : x ∈ strike m t ↔ x ∈ m ∧ x ≠ t := by simp [strike]
theorem strike_asc {m : List Int} (t : Int) (h : m.Pairwise (· < ·)) : (strike m t).Pairwise (· < ·) := h.filter _
theorem lo_mem {m : List Int} {last : Int} (h : m ≠ []) : lo m last ∈ m := by
  cases m with
  | nil => exact absurd rfl h
  | cons a r => simp [lo]
theorem lo_le {m : List Int} {last : Int} (h : m.Pairwise (· < ·)) (t : Int) (ht : t ∈ m) : lo m last ≤ t := by
  cases m with
  | nil => cases ht
  | cons a r =>
    rcases List.mem_cons.1 ht with rfl | ht
    · exact Int.le_refl _
    · exact Int.le_of_lt ((List.pairwise_cons.1 h).1 t ht)
/-- Where the search for the eldest ends. -/
theorem lo_eq {m : List Int} {last e : Int} (h : m.Pairwise (· < ·)) (hl : ∀ t ∈ m, e ≤ t ∧ t ≤ last) (he : e ∈ m ∨ e = last + 1) : lo m last = e := by
  by_cases hm : m = []
  · subst hm
    rcases he with he | rfl
    · cases he
    · rfl
  · rcases he with he | rfl
    · have h1 := lo_le (last := last) h e he
      have h2 := (hl _ (lo_mem (last := last) hm)).1
      omega
    · have := hl _ (lo_mem (last := last) hm)
      omega
theorem Ok.leave {α : Type} {s : HS α} (h : Ok s) (t : Int) : Ok (leaveF s t) := by
  have hs := strike_asc t h.asc
  have hin : ∀ x ∈ strike s.m t, s.eld ≤ x ∧ 1 ≤ x ∧ x ≤ s.last := fun x hx => h.inn x (mem_strike.1 hx).1
  have h0 := h.last0
  refine ⟨h.last0, h.lastB, ?_, ?_, hs, fun x hx => ⟨lo_le hs x hx, (hin x hx).2⟩, ?_⟩
  · show 0 ≤ lo (strike s.m t) s.last
    by_cases hm : strike s.m t = []
    · rw [hm]; show 0 ≤ s.last + 1; omega
    · have := hin _ (lo_mem (last := s.last) hm); omega
  · show lo (strike s.m t) s.last ≤ s.last + 1
    by_cases hm : strike s.m t = []
    · rw [hm]; exact Int.le_refl _
    · have := hin _ (lo_mem (last := s.last) hm); omega
  · show (s.l.drop _).length ≤ 5000
    have := h.len
    rw [List.length_drop]; omega
theorem Ok.drop {α : Type} {s : HS α} (h : Ok s) (xs : List α) (hl : s.l.length + xs.length ≤ 5000) : Ok (dropF s xs) :=
  ⟨h.last0, h.lastB, h.eld0, h.eldB, h.asc, h.inn, by show (s.l ++ _).length ≤ 5000; simp; omega⟩
theorem freeN_le {α : Type} (l : List (α × Int)) (e : Int) : freeN l e ≤ l.length := by
  unfold freeN
  induction l with
  | nil => simp
  | cons d r ih => simp only [List.takeWhile]; split <;> simp; omega
/-- The first that stays. -/
theorem freeN_at {α : Type} (l : List (α × Int)) (e : Int) (k : Nat) (hb : ∀ j (hj : j < l.length), j < k → (l[j]).2 < e) (hk : k = l.length ∨ ∃ hk : k < l.length, ¬ (l[k]).2 < e) : freeN l e = k := by
  unfold freeN
  induction l generalizing k with
  | nil =>
    rcases hk with rfl | ⟨hk, _⟩
    · rfl
    · exact absurd hk (Nat.not_lt_zero _)
  | cons d r ih =>
    cases k with
    | zero =>
      rcases hk with hk | ⟨hk, hn⟩
      · cases hk
      · have hn' : ¬ d.2 < e := hn
        simp [List.takeWhile, hn']
    | succ k =>
      have h0 : d.2 < e := hb 0 (by simp) (by omega)
      simp only [List.takeWhile, h0, decide_true, List.length_cons]
      congr 1
      refine ih k (fun j hj hjk => hb (j + 1) (by simpa using hj) (by omega)) ?_
      rcases hk with hk | ⟨hk, hn⟩
      · exact .inl (by simpa using hk)
      · exact .inr ⟨by simpa using hk, by simpa using hn⟩

theorem law : Keyed Try.prog 3 := int_keyed Try.underlying3
theorem zeroU (w : World) : (zeroValue 80).run Try.prog w = .ok (.agg #[]) w := by kernel_rfl
theorem wfI {x : Int} (h : -9223372036854775808 ≤ x ∧ x ≤ 9223372036854775807) : (Lit.int .i64 x).wf = true := WalkArith.wf_i64 h

/-- The map of those who are inside: nil, or a block of at most n entries. -/
def MapIs (w : World) (mv : Value) (m : List Int) (n : Nat) : Prop :=
  (mv = .map none ∧ m = []) ∨ ∃ mb D, mv = .map (some mb) ∧ w.ownsMap Try.prog 3 (unitElem (H := Unit)) mb n D ∧ (∀ x : Int, Maps.has D (.int .i64 x) = decide (x ∈ m)) ∧ Maps.size D = m.length
def blk : Value → Option Nat
  | .map (some b) => some b
  | _ => none
theorem MapIs.lt {w : World} {mv : Value} {m : List Int} {n : Nat} (h : MapIs w mv m n) (b : Nat) (hb : blk mv = some b) : b < w.heap.size := by
  rcases h with ⟨rfl, _⟩ | ⟨mb, D, rfl, ho, _⟩
  · cases hb
  · cases hb; exact ho.lt
theorem MapIs.keep {w w' : World} {mv : Value} {m : List Int} {n : Nat} (h : MapIs w mv m n) (hk : ∀ b, blk mv = some b → w'.heap[b]? = w.heap[b]?) : MapIs w' mv m n := by
  rcases h with h | ⟨mb, D, rfl, ⟨es, clock, hb, r⟩, h2⟩
  · exact .inl h
  · exact .inr ⟨mb, D, rfl, ⟨es, clock, (hk mb rfl).trans hb, r⟩, h2⟩
theorem MapIs.map {w : World} {mv : Value} {m : List Int} {n : Nat} (h : MapIs w mv m n) (b : Nat) (hb : blk mv = some b) : ∃ es clock, w.heap[b]? = some (.map es clock) := by
  rcases h with ⟨rfl, _⟩ | ⟨mb, D, rfl, ⟨es, clock, hh, _⟩, _⟩
  · cases hb
  · cases hb; exact ⟨es, clock, hh⟩
theorem MapIs.len {w : World} {mv : Value} {m : List Int} {n : Nat} (h : MapIs w mv m n) (ty : TypeId) : (Builtin.len_ #[24] ty #[mv]).run Try.prog w = .ok (.int .i64 m.length) w := by
  rcases h with ⟨rfl, rfl⟩ | ⟨mb, D, rfl, ho, _, hs⟩
  · exact Maps.len_nil Try.underlying24 ty
  · rw [ho.len Try.underlying24 ty, hs]
theorem MapIs.look {w : World} {mv : Value} {m : List Int} {n : Nat} (h : MapIs w mv m n) (x : Int) (hx : -9223372036854775808 ≤ x ∧ x ≤ 9223372036854775807) :
    (Instr.lookup 24 mv (.int .i64 x) true).run Try.prog w = .ok (.tuple #[.agg #[], .bool (decide (x ∈ m))]) w := by
  rcases h with ⟨rfl, rfl⟩ | ⟨mb, D, rfl, ho, hh, _⟩
  · rw [Maps.look_nil true law Try.underlying24 (zeroU w) (keyOf_int_mk Try.underlying3 (wfI hx))]
    simp
  · obtain ⟨v, ps, hr, hv⟩ := ho.look_ok law Try.underlying24 (zeroU w) unitElem_mk (keyOf_int_mk Try.underlying3 (wfI hx))
    obtain ⟨rfl, _⟩ := unitElem_inv hv
    rw [hr, hh]
theorem key_ne {x y : Int} (h : x ≠ y) : Lit.int .i64 x ≠ Lit.int .i64 y := fun e => h (by injection e)
theorem strike_none {m : List Int} {t : Int} (h : t ∉ m) : strike m t = m := List.filter_eq_self.2 (fun x hx => by
  have : x ≠ t := fun e => h (e ▸ hx)
  simpa using this)
theorem strike_len {m : List Int} {t : Int} (hn : m.Pairwise (· < ·)) (h : t ∈ m) : (strike m t).length + 1 = m.length := by
  induction m with
  | nil => cases h
  | cons a r ih =>
    obtain ⟨h1, h2⟩ := List.pairwise_cons.1 hn
    by_cases e : a = t
    · subst e
      have hr : strike (a :: r) a = strike r a := by simp [strike]
      rw [hr, strike_none (fun ha => by have := h1 a ha; omega)]
      simp
    · have hr : strike (a :: r) t = a :: strike r t := by simp [strike, e]
      rw [hr, List.length_cons, List.length_cons, ih h2 (by
        rcases List.mem_cons.1 h with h | h
        · exact absurd h.symm e
        · exact h)]
theorem MapIs.del {w : World} {mv : Value} {m : List Int} {n : Nat} (h : MapIs w mv m n) (hm : m.Pairwise (· < ·)) (x : Int) (hx : -9223372036854775808 ≤ x ∧ x ≤ 9223372036854775807) :
    ∃ w', (∀ ty, (Builtin.delete_ #[24, 3] ty #[mv, .int .i64 x]).run Try.prog w = .ok (.tuple #[]) w') ∧ MapIs w' mv (strike m x) n ∧ w.grownBy w' (blk mv) ∧ w'.heap.size = w.heap.size := by
  rcases h with ⟨rfl, rfl⟩ | ⟨mb, D, rfl, ho, hh, hs⟩
  · exact ⟨w, fun ty => Maps.drop_nil law Try.underlying24 (keyOf_int_mk Try.underlying3 (wfI hx)) ty, .inl ⟨rfl, rfl⟩, ⟨rfl, rfl, rfl, Nat.le_refl _, fun _ _ _ => rfl⟩, rfl⟩
  · have key := keyOf_int_mk Try.underlying3 (wfI hx)
    obtain ⟨w', hr, ho', ht⟩ := ho.drop law Try.underlying24 key 0
    refine ⟨w', fun ty => ?_, .inr ⟨mb, _, rfl, ho', fun y => ?_, ?_⟩, ht.grown, ?_⟩
    · exact hr
    · by_cases e : y = x
      · subst e
        rw [Maps.has_del_same]
        simp [strike]
      · rw [Maps.has_del_other (key_ne e), hh]
        simp [mem_strike, e]
    · have := Maps.size_del (k := Lit.int .i64 x) (ho.tidy law)
      rw [hh, hs] at this
      by_cases e : x ∈ m
      · have h2 := strike_len hm e
        simp only [e, decide_true, if_true] at this
        omega
      · rw [strike_none e]
        simp only [e, decide_false, Bool.false_eq_true, if_false] at this
        omega
    · obtain ⟨es, clock, es', clock', hb, rfl⟩ := ht
      simp [ChangeMaps.setBlock]
theorem MapIs.put {w : World} {mb : Nat} {m : List Int} {n : Nat} (h : MapIs w (.map (some mb)) m n) (hn : n < maxLen) (x : Int) (hx : -9223372036854775808 ≤ x ∧ x ≤ 9223372036854775807) (hxm : x ∉ m) :
    ∃ w', (Instr.mapUpdate 24 (.map (some mb)) (.int .i64 x) (.agg #[])).run Try.prog w = .ok () w' ∧ MapIs w' (.map (some mb)) (m ++ [x]) (n + 1) ∧ w.grownBy w' (some mb) ∧ w'.heap.size = w.heap.size := by
  rcases h with ⟨h, _⟩ | ⟨mb', D, h, ho, hh, hs⟩
  · cases h
  · cases h
    have key := keyOf_int_mk Try.underlying3 (wfI hx)
    obtain ⟨w', hr, ho', ht⟩ := ho.store law Try.underlying24 hn key unitElem_mk
    refine ⟨w', hr, .inr ⟨mb, _, rfl, ho', fun y => ?_, ?_⟩, ht.grown, ?_⟩
    · by_cases e : y = x
      · subst e
        rw [Maps.has_put_same ho.isMap (law.key key)]
        simp
      · rw [Maps.has_put_other (key_ne e), hh]
        simp [e]
    · rw [Maps.size_put (ho.tidy law), hh, hs]
      simp [hxm]
    · obtain ⟨es, clock, es', clock', hb, rfl⟩ := ht
      simp [ChangeMaps.setBlock]
theorem MapIs.made (w : World) : MapIs (w.alloc (.map #[] 0)) (.map (some w.heap.size)) [] 0 :=
  .inr ⟨w.heap.size, .map [], rfl, World.ownsMap_made _ _ _ _, fun _ => rfl, rfl⟩

end Go.Proofs.Ytgfbcekmnpdoeaa.Hd
