/-
  The first one is inside all along: what holds of the holds and of the law's own map of those inside; pure but for the map. No condition.
-/
import Derived.Test.YtmapaplpoogpfaaHdO
import Derived.Maps.RangeWalk
namespace Go.Proofs.Ytmapaplpoogpfaa.Hdi
open Go.ChangeShapes Go.WideShapes Go.ChangeAt Go.RowKit Go.Proofs.Fa Go.Proofs.Ytmapaplpoogpfaa.Hd
open Go.Maps (Keyed int_keyed keyOf_int_mk)

/-- The first is inside, r are those beside it; c things are held, the first of them -1, each dropped when the first was inside. -/
structure Nev (s : HS Int) (r : List Int) (c : Nat) : Prop where
  m : s.m = 1 :: r
  len : s.l.length = c
  one : s.l.any (fun d => d.1 == -1) = true
  ge : ∀ d ∈ s.l, 1 ≤ d.2
  le : ∀ d ∈ s.l, d.2 ≤ s.last

theorem nev_asc {s : HS Int} {r : List Int} {c : Nat} (h : Nev s r c) (hk : Ok s) : (1 :: r).Pairwise (· < ·) := by rw [← h.m]; exact hk.asc
theorem Nev.enter {s : HS Int} {r : List Int} {c : Nat} (h : Nev s r c) : Nev (enterF s) (r ++ [s.last + 1]) c :=
  ⟨by show s.m ++ [s.last + 1] = _; rw [h.m]; rfl, h.len, h.one, h.ge, fun d hd => by have := h.le d hd; show d.2 ≤ s.last + 1; omega⟩
theorem Nev.drop {s : HS Int} {r : List Int} {c : Nat} (h : Nev s r c) (hl : 1 ≤ s.last) (x : Int) : Nev (dropF s [x]) r (c + 1) := by
  have e : (dropF s [x]).l = s.l ++ [(x, s.last)] := rfl
  refine ⟨h.m, by rw [e, List.length_append, h.len]; rfl, by rw [e, List.any_append, h.one]; rfl, fun d hd => ?_, fun d hd => ?_⟩
  · rw [e] at hd
    rcases List.mem_append.1 hd with hd | hd
    · exact h.ge d hd
    · simp only [List.mem_cons, List.not_mem_nil, or_false] at hd
      subst hd
      exact hl
  · rw [e] at hd
    rcases List.mem_append.1 hd with hd | hd
    · exact h.le d hd
    · simp only [List.mem_cons, List.not_mem_nil, or_false] at hd
      subst hd
      exact Int.le_refl _
theorem nev_free {s : HS Int} {r : List Int} {c : Nat} (h : Nev s r c) {t : Int} (ht : t ≠ 1) : strike s.m t = 1 :: strike r t ∧ freeN s.l (lo (strike s.m t) s.last) = 0 := by
  have e : strike s.m t = 1 :: strike r t := by
    rw [h.m]
    simp [strike, Ne.symm ht]
  refine ⟨e, ?_⟩
  rw [e]
  refine freeN_at s.l _ 0 (fun _ _ h => absurd h (Nat.not_lt_zero _)) ?_
  by_cases h0 : s.l = []
  · exact .inl (by rw [h0]; rfl)
  · right
    have hp : 0 < s.l.length := List.length_pos_iff.2 h0
    refine ⟨hp, ?_⟩
    have := h.ge _ (List.getElem_mem hp)
    show ¬ (s.l[0]).2 < 1
    omega
theorem Nev.leave {s : HS Int} {r : List Int} {c : Nat} (h : Nev s r c) {t : Int} (ht : t ≠ 1) : Nev (leaveF s t) (strike r t) c ∧ leaveL s t = [] := by
  obtain ⟨e, hf⟩ := nev_free h ht
  have el : (leaveF s t).l = s.l := by
    show s.l.drop (freeN s.l (lo (strike s.m t) s.last)) = s.l
    rw [hf]; rfl
  refine ⟨⟨e, by rw [el]; exact h.len, by rw [el]; exact h.one, by rw [el]; exact h.ge, by rw [el]; exact h.le⟩, ?_⟩
  unfold leaveL
  rw [hf]
  rfl
/-- Behind all the others the first one leaves. -/
theorem Nev.last {s : HS Int} {c : Nat} (h : Nev s [] c) : (leaveF s 1).m = [] ∧ (leaveF s 1).l = [] ∧ (leaveL s 1).length = c := by
  have e : strike s.m 1 = [] := by rw [h.m]; simp [strike]
  have hf : freeN s.l (lo [] s.last) = s.l.length := freeN_all s.l _ (fun d hd => by have := h.le d hd; show d.2 < s.last + 1; omega)
  refine ⟨e, ?_, ?_⟩
  · show s.l.drop (freeN s.l (lo (strike s.m 1) s.last)) = []
    rw [e, hf]
    exact List.drop_length
  · rw [leaveL_length, e, hf]
    exact h.len

/-- The law's own map: those beside the first. -/
def InIs (w : World) (mb n : Nat) (r : List Int) : Prop :=
  ∃ D, w.ownsMap Try.prog 3 (plainElem (H := Unit) Try.prog 4) mb n D ∧ (∀ x : Int, Maps.has D (.int .i64 x) = decide (x ∈ r)) ∧ Maps.size D = r.length
theorem InIs.lt {w : World} {mb n : Nat} {r : List Int} (h : InIs w mb n r) : mb < w.heap.size := by obtain ⟨D, ho, _⟩ := h; exact ho.lt
theorem InIs.keep {w w' : World} {mb n : Nat} {r : List Int} (h : InIs w mb n r) (hk : w'.heap[mb]? = w.heap[mb]?) : InIs w' mb n r := by
  obtain ⟨D, ⟨es, clock, hb, q⟩, h2⟩ := h
  exact ⟨D, ⟨es, clock, hk.trans hb, q⟩, h2⟩
theorem InIs.mono {w : World} {mb n n' : Nat} {r : List Int} (h : InIs w mb n r) (hn : n ≤ n') : InIs w mb n' r := by
  obtain ⟨D, ho, h2⟩ := h
  exact ⟨D, ho.mono hn, h2⟩
theorem InIs.len {w : World} {mb n : Nat} {r : List Int} (h : InIs w mb n r) (ty : TypeId) : (Builtin.len_ #[46] ty #[.map (some mb)]).run Try.prog w = .ok (.int .i64 r.length) w := by
  obtain ⟨D, ho, _, hs⟩ := h
  rw [ho.len Try.underlying46 ty, hs]
theorem InIs.del {w : World} {mb n : Nat} {r : List Int} (h : InIs w mb n r) (hr : r.Pairwise (· < ·)) (x : Int) (hx : -9223372036854775808 ≤ x ∧ x ≤ 9223372036854775807) :
    ∃ w', (∀ ty, (Builtin.delete_ #[46, 3] ty #[.map (some mb), .int .i64 x]).run Try.prog w = .ok (.tuple #[]) w') ∧ InIs w' mb n (strike r x) ∧ w.grownBy w' (some mb) := by
  obtain ⟨D, ho, hh, hs⟩ := h
  have key := keyOf_int_mk Try.underlying3 (wfI hx)
  obtain ⟨w', hrn, ho', ht⟩ := ho.drop law Try.underlying46 key 0
  refine ⟨w', fun ty => hrn, ⟨_, ho', fun y => ?_, ?_⟩, ht.grown⟩
  · by_cases e : y = x
    · subst e
      rw [Maps.has_del_same]
      simp [strike]
    · rw [Maps.has_del_other (key_ne e), hh]
      simp [mem_strike, e]
  · have := Maps.size_del (k := Lit.int .i64 x) (ho.tidy law)
    rw [hh, hs] at this
    by_cases e : x ∈ r
    · have h2 := strike_len hr e
      simp only [e, decide_true, if_true] at this
      omega
    · rw [strike_none e]
      simp only [e, decide_false, Bool.false_eq_true, if_false] at this
      omega
theorem InIs.put {w : World} {mb n : Nat} {r : List Int} (h : InIs w mb n r) (hn : n < maxLen) (x : Int) (hx : -9223372036854775808 ≤ x ∧ x ≤ 9223372036854775807) (hxr : x ∉ r) :
    ∃ w', (Instr.mapUpdate 46 (.map (some mb)) (.int .i64 x) (.bool true)).run Try.prog w = .ok () w' ∧ InIs w' mb (n + 1) (r ++ [x]) ∧ w.grownBy w' (some mb) := by
  obtain ⟨D, ho, hh, hs⟩ := h
  have key := keyOf_int_mk Try.underlying3 (wfI hx)
  obtain ⟨w', hrn, ho', ht⟩ := ho.store law Try.underlying46 hn key (plainElem_bool Try.underlying4 true)
  refine ⟨w', hrn, ⟨_, ho', fun y => ?_, ?_⟩, ht.grown⟩
  · by_cases e : y = x
    · subst e
      rw [Maps.has_put_same ho.isMap (law.key key)]
      simp
    · rw [Maps.has_put_other (key_ne e), hh]
      simp [e]
  · rw [Maps.size_put (ho.tidy law), hh, hs]
    simp [hxr]
theorem InIs.made (w : World) : InIs (w.alloc (.map #[] 0)) w.heap.size 0 [] := ⟨.map [], World.ownsMap_made _ _ _ _, fun _ => rfl, rfl⟩

end Go.Proofs.Ytmapaplpoogpfaa.Hdi
