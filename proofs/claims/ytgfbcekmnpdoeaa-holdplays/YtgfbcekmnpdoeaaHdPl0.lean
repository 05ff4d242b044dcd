/-
  The program's holds and the document's beside each other in the law's world. No condition.
-/
import Derived.Test.YtgfbcekmnpdoeaaHdEq
namespace Go.Proofs.Ytgfbcekmnpdoeaa.Hdi
open Go.ChangeShapes Go.WideShapes Go.ChangeAt Go.RowKit Go.Proofs.Fa Go.Proofs.Ytgfbcekmnpdoeaa.Hd
open Go.Proofs.Ytgfbcekmnpdoeaa.Nv (Turn Grow lt_of_heap lt_of_cell cell_of_heap free_of_heap icells scells icells_one scells_one)

/-- The blocks that aren't the program's: what was there, and the document's. -/
def DocH (w1 : World) (T : List Th) (vi vl : Value) (q : Nat) : Prop :=
  q < w1.heap.size ∨ q = w1.heap.size + 1 ∨ vi.ownBlock = some q ∨ vl.ownBlock = some q ∨ ∃ t ∈ T, t.v.ownBlock = some q
/-- Both, behind the same acts. -/
structure PlaysAt (w1 wr : World) (s : HS Int) (T : List Th) (vi vl : Value) : Prop where
  play : PlayX (DocH w1 T vi vl) w1 wr w1.heap.size s
  ref : RefIn wr (w1.heap.size + 1) s.last s.m T vi vl
  key : T.map keyT = lF s
  eqv : Eqv s

theorem ref_lt {w1 wr : World} {last : Int} {ins : List Int} {T : List Th} {vi vl : Value} (h : RefIn wr (w1.heap.size + 1) last ins T vi vl) (q : Nat) (hq : DocH w1 T vi vl q) : q < wr.heap.size := by
  have hb := lt_of_heap h.main
  rcases hq with hq | hq | hq | hq | ⟨t, ht, hq⟩
  · omega
  · omega
  · exact h.ins.lt q hq
  · exact h.row.lt q hq
  · exact (h.all t ht).lt q hq
theorem ref_keep {w1 wr w' : World} {last : Int} {ins : List Int} {T : List Th} {vi vl : Value} (h : RefIn wr (w1.heap.size + 1) last ins T vi vl) (hk : ∀ q, DocH w1 T vi vl q → w'.heap[q]? = wr.heap[q]?) : RefIn w' (w1.heap.size + 1) last ins T vi vl :=
  ⟨(hk _ (.inr (.inl rfl))).trans h.main, h.ins.keep (fun g hg => hk g (.inr (.inr (.inl hg)))), h.row.keep (fun g hg => hk g (.inr (.inr (.inr (.inl hg))))),
    fun t ht => (h.all t ht).keep (fun g hg => hk g (.inr (.inr (.inr (.inr ⟨t, ht, hg⟩))))), h.ni, h.nt⟩
theorem PlaysAt.below {w1 wr w' : World} {s : HS Int} {T : List Th} {vi vl : Value} (h : PlaysAt w1 wr s T vi vl) (hb : Below wr.heap.size wr w') : PlaysAt w1 w' s T vi vl :=
  ⟨(h.play.below hb).mono (fun _ hq => .inl hq), ref_keep h.ref (fun q hq => hb.block q (ref_lt h.ref q hq)), h.key, h.eqv⟩
theorem PlaysAt.len {w1 wr : World} {s : HS Int} {T : List Th} {vi vl : Value} (h : PlaysAt w1 wr s T vi vl) : T.length = s.l.length := by
  have := congrArg List.length h.key
  unfold lF at this
  rwa [List.length_map, List.length_map] at this
theorem PlaysAt.bound {w1 wr : World} {s : HS Int} {T : List Th} {vi vl : Value} (h : PlaysAt w1 wr s T vi vl) (t : Th) (ht : t ∈ T) : t.bs.length ≤ s.m.length := by
  have hm : keyT t ∈ lF s := by rw [← h.key]; exact List.mem_map.2 ⟨t, ht, rfl⟩
  obtain ⟨d, _, e⟩ := List.mem_map.1 hm
  have e2 : t.bs = byF s.m d.2 := (congrArg Prod.snd e).symm
  rw [e2]
  exact List.length_filter_le _ _

/-- The things are the same, one for one. -/
theorem PlaysAt.thing {w1 wr : World} {s : HS Int} {T : List Th} {vi vl : Value} (h : PlaysAt w1 wr s T vi vl) (j : Nat) (hj : j < T.length) (hj' : j < s.l.length) : T[j].x = (s.l[j]).1 := by
  have e : (T.map keyT)[j]? = (lF s)[j]? := by rw [h.key]
  unfold lF at e
  rw [List.getElem?_map, List.getElem?_map, List.getElem?_eq_getElem hj, List.getElem?_eq_getElem hj'] at e
  simp only [Option.map_some, Option.some.injEq] at e
  exact congrArg Prod.fst e
theorem any_at (l : List (Int × Int)) (j : Nat) (hj : j < l.length) : l.any (fun d => d.1 == (l[j]).1) = true := List.any_eq_true.2 ⟨l[j], List.getElem_mem hj, beq_self_eq_true _⟩

/-- Behind the program's Leave, and the document's. -/
theorem PlaysAt.leave {w1 wr w2 w3 : World} {s : HS Int} {T K : List Th} {vi vl vi' vl' : Value} {t : Int} (h : PlaysAt w1 wr s T vi vl)
    (h2 : PlayX (fun q => DocH w1 T vi vl q ∨ wr.heap.size ≤ q) w1 w2 w1.heap.size (leaveF s t))
    (hK : K.map keyT = T.map (fun y => (y.x, strike y.bs t))) (hR : RefIn w3 (w1.heap.size + 1) s.last (strike s.m t) (non K) vi' vl') (ht : Turn (fun k => k = w1.heap.size + 1) w2 w3)
    (g1 : ∀ q, vi'.ownBlock = some q → w2.heap.size ≤ q) (g2 : ∀ q, vl'.ownBlock = some q → w2.heap.size ≤ q) (g3 : ∀ y ∈ K, ∀ q, y.v.ownBlock = some q → w2.heap.size ≤ q) :
    PlaysAt w1 w3 (leaveF s t) (non K) vi' vl' ∧ (emp K).map Th.x = leaveL s t := by
  obtain ⟨e1, e2, e3⟩ := h.eqv.leave h.play.ok t
  have hk2 : K.map keyT = (lF s).map (fun p => (p.1, strike p.2 t)) := by
    rw [hK, ← h.key, List.map_map]
    rfl
  have hsb := h.play.bel.size
  have hp3 := h2.turned ht (fun q e => .inl (.inr (.inl e))) (fun q e => by subst e; omega)
  refine ⟨⟨hp3.mono (fun q hq => ?_), hR, by rw [non_key, hk2, e3], e1⟩, by rw [emp_key, hk2, e2]⟩
  rcases hq with hq | hq | hq | hq | ⟨y, hy, hq⟩
  · exact .inl (.inl (.inl hq))
  · exact .inl (.inl (.inr (.inl hq)))
  · exact .inr (g1 q hq)
  · exact .inr (g2 q hq)
  · exact .inr (g3 y (List.mem_filter.1 hy).1 q hq)

/-- Behind the program's Drop while somebody is inside, and the document's. -/
theorem PlaysAt.drop {w1 wr w2 w3 : World} {s : HS Int} {T K : List Th} {vi vl vl' : Value} {xs : List Int} (h : PlaysAt w1 wr s T vi vl) (hm : s.m ≠ [])
    (h2 : PlayX (DocH w1 T vi vl) w1 w2 w1.heap.size (dropF s xs))
    (hK : K.map keyT = T.map keyT ++ xs.map (fun x => (x, s.m))) (hR : RefIn w3 (w1.heap.size + 1) s.last s.m (non K) vi vl') (ht : Turn (fun k => k = w1.heap.size + 1) w2 w3)
    (g2 : ∀ q, vl'.ownBlock = some q → w2.heap.size ≤ q) (g3 : ∀ y ∈ K, ∀ q, y.v.ownBlock = some q → w2.heap.size ≤ q ∨ ∃ t ∈ T, t.v.ownBlock = some q) :
    PlaysAt w1 w3 (dropF s xs) (non K) vi vl' ∧ (emp K).map Th.x = [] := by
  obtain ⟨e1, e2, e3⟩ := h.eqv.drop h.play.ok hm xs
  rw [h.key] at hK
  have hp3 := h2.turned ht (fun q e => .inr (.inl e)) (fun q e => by subst e; omega)
  refine ⟨⟨hp3.mono (fun q hq => ?_), hR, by rw [non_key, hK, e3], e1⟩, by rw [emp_key, hK, e2]; rfl⟩
  rcases hq with hq | hq | hq | hq | ⟨y, hy, hq⟩
  · exact .inl (.inl hq)
  · exact .inl (.inr (.inl hq))
  · exact .inl (.inr (.inr (.inl hq)))
  · exact .inr (g2 q hq)
  · rcases g3 y (List.mem_filter.1 hy).1 q hq with hq | hq
    · exact .inr hq
    · exact .inl (.inr (.inr (.inr (.inr hq))))

/-- .. and when nobody is. -/
theorem PlaysAt.drop0 {w1 w2 w3 : World} {s : HS Int} {T K : List Th} {vi vl vl' : Value} {xs : List Int} (h : PlaysAt w1 w2 s T vi vl) (hm : s.m = [])
    (hK : K.map keyT = T.map keyT ++ xs.map (fun x => (x, s.m))) (hR : RefIn w3 (w1.heap.size + 1) s.last s.m (non K) vi vl') (ht : Turn (fun k => k = w1.heap.size + 1) w2 w3)
    (g2 : ∀ q, vl'.ownBlock = some q → w2.heap.size ≤ q) (g3 : ∀ y ∈ K, ∀ q, y.v.ownBlock = some q → w2.heap.size ≤ q ∨ ∃ t ∈ T, t.v.ownBlock = some q) :
    PlaysAt w1 w3 s (non K) vi vl' ∧ (emp K).map Th.x = xs := by
  obtain ⟨e2, e3⟩ := h.eqv.drop0 hm xs
  rw [h.key] at hK
  have hp3 := h.play.turned ht (fun q e => .inr (.inl e)) (fun q e => by subst e; omega)
  refine ⟨⟨hp3.mono (fun q hq => ?_), hR, by rw [non_key, hK, e3], h.eqv⟩, by rw [emp_key, hK, e2]⟩
  rcases hq with hq | hq | hq | hq | ⟨y, hy, hq⟩
  · exact .inl (.inl hq)
  · exact .inl (.inr (.inl hq))
  · exact .inl (.inr (.inr (.inl hq)))
  · exact .inr (g2 q hq)
  · rcases g3 y (List.mem_filter.1 hy).1 q hq with hq | hq
    · exact .inr hq
    · exact .inl (.inr (.inr (.inr (.inr hq))))

end Go.Proofs.Ytgfbcekmnpdoeaa.Hdi
