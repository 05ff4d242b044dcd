/-
  Rows of numbers kept by the law; the calls that turn nothing, in a caller's world. No condition.
-/
import Derived.Test.YtgfbcekmnpdoeaaHdE
import Derived.Test.YtgfbcekmnpdoeaaHdXi
import Derived.Test.YtgfbcekmnpdoeaaLeM
namespace Go.Proofs.Ytgfbcekmnpdoeaa.Hdi
open Go.ChangeShapes Go.WideShapes Go.ChangeAt Go.RowKit Go.Proofs.Fa Go.Proofs.Ytgfbcekmnpdoeaa.Hd
open Go.Proofs.Ytgfbcekmnpdoeaa.Nv (Turn Grow lt_of_heap lt_of_cell cell_of_heap free_of_heap icells scells icells_one scells_one)

theorem and7 (n : Int) : bits .and .i64 n 7 = n % 8 := Le.i64_and_mask n 3 (by decide)
theorem and3 (n : Int) : bits .and .i64 n 3 = n % 4 := Le.i64_and_mask n 2 (by decide)

theorem wpList_append_run {P : Program} {w : World} {ops : Array Oper} {rest : List Oper} {o : Oper} {a : Act} {Q : Exit → Act → World → Prop} (hgd : o.guard = none) (s x : Operand) (t : TypeId)
    (ho : o.op = .call { callee := .builtin .append, args := #[s, x], argTypes := #[t, t] }) (v u : Value) (hs : a.eval s = v) (hx : a.eval x = u) {v' : Value} {w' : World}
    (hr : (Builtin.append_ #[t, t] o.type #[v, u]).run P w = .ok v' w') (h : wpList P ops Q rest (a.put o.dst v') w') : wpList P ops Q (o :: rest) a w := by
  refine wpList_plain hgd fun _ hK => ?_
  unfold Oper.wp execOp
  simp only [ho, resolve, invoke, builtin, Sem.run_bind, Sem.run_pure, Result.andThen_ok, List.map_toArray, List.map_cons, List.map_nil, hs, hx, hr]
  exact hK _ _ h

/-- A row of its own, of the first of some numbers. -/
theorem keep_row (W : World) (a2 : Option Addr) (q cap2 : Nat) (L2 : Nat → Int) (hq : q ≤ 1000) (hc : q = 0 ∨ ∃ b off, a2 = some ⟨b, off, none⟩ ∧ b < W.heap.size ∧ ∀ i, i < q → W.cell? ⟨b, off + i, none⟩ = some (.int .i64 (L2 i))) :
    ∃ v W', (Builtin.append_ #[29, 29] 29 #[.slice (some ⟨W.heap.size, 0, none⟩) 0 0, .slice a2 q cap2]).run Try.prog (W.alloc (Obj.cells #[] 3)) = .ok v W' ∧ TRow W' W.heap.size v ((List.range q).map L2) ∧ Below W.heap.size W W' := by
  have hl : ((List.range q).map L2).length = q := by simp
  obtain ⟨i0, hi, hz0, hz1, hz2⟩ := info_parts info_t
  have hlit := World.ownsRow_lit (e := 3) (size := 1) W #[] 0 (Nat.le_refl W.heap.size) (by decide) rfl
  cases a2 with
  | none =>
    have h0 : q = 0 := by
      rcases hc with h | ⟨_, _, h, _⟩
      · exact h
      · cases h
    subst h0
    refine ⟨.slice (some ⟨W.heap.size, 0, none⟩) 0 0, W.alloc (Obj.cells #[] 3), ?_, hlit, (Below.refl _ _).alloc (Nat.le_refl _) _⟩
    simp [Builtin.append_, run_underlying Try.underlying29, Builtin.lenOf, Builtin.firstCells, sizeOf, typeInfo, hi, storeCells]
  | some x =>
    have hnews : ∀ j u, (icells ((List.range q).map L2))[j]? = some u → (W.alloc (Obj.cells #[] 3)).cell? (x.add j) = some u := by
      intro j u hu
      have hj : j < q := by
        have := (List.getElem?_eq_some_iff.1 hu).1
        simpa [icells] using this
      rcases hc with h | ⟨b, off, e, hb, hcc⟩
      · omega
      · cases e
        rw [show (⟨b, off, none⟩ : Addr).add j = ⟨b, off + j, none⟩ by simp [Addr.add_lit]]
        refine (World.cell?_of_block (Below.heap_alloc _ _ _ hb)).trans ((hcc j hj).trans ?_)
        simp [icells, hj] at hu
        rw [← hu]
    obtain ⟨v, W', hr, ho, hg, _⟩ := run_append_near (P := Try.prog) (w := W.alloc (Obj.cells #[] 3)) W.heap.size 29 29 3 i0 (.int .i64 0) 1 8 Try.underlying29 hi hz0 hz1 hz2 rfl (by decide) _ 0 [] hlit x q cap2 (icells ((List.range q).map L2)) (by simp [icells]) hnews (icells_one _) (by unfold maxLen; omega) (by omega) (by simp)
    refine ⟨v, W', hr, ?_, ((Below.refl _ W).alloc (Nat.le_refl _) _).grown hg (by simp) (fun k e => by cases e; exact Nat.le_refl _)⟩
    unfold TRow
    rw [hl]
    simpa using ho

/-- A row, and all of another one behind it. -/
theorem app_all {W : World} {B : Nat} {v u : Value} {l m : List Int} (h : TRow W B v l) (hB : B ≤ W.heap.size) (hl : l.length ≤ 100000) (hu : TAt W u m) (hm : m.length ≤ 100000) (ty : TypeId) :
    ∃ v' W', (Builtin.append_ #[29, 29] ty #[v, u]).run Try.prog W = .ok v' W' ∧ TRow W' B v' (l ++ m) ∧ W.grownBy W' v.ownBlock ∧ Near W v v' := by
  obtain ⟨i0, hi, hz0, hz1, hz2⟩ := info_parts info_t
  have HU := hu
  rcases hu with ⟨rfl, rfl⟩ | ⟨g, off, cap, rfl, _, _, _, _⟩
  · refine ⟨v, W, ?_, by simpa using h, ⟨rfl, rfl, rfl, Nat.le_refl _, fun _ _ _ => rfl⟩, .inl rfl⟩
    rcases h.2 with ⟨rfl, _⟩ | ⟨g, cap, cur, rfl, _, _, hnc, _, _⟩
    · simp [Builtin.append_, go_sem, Builtin.lenOf, Builtin.firstCells]
    · simp [Builtin.append_, go_sem, Builtin.lenOf, Builtin.firstCells, hnc]
  · obtain ⟨v', W', h1, h2, h3, h4⟩ := run_append_near (P := Try.prog) W B 29 ty 3 i0 _ 1 8 Try.underlying29 hi hz0 hz1 hz2 rfl (by decide) v l.length (icells l) h ⟨g, off, none⟩ m.length cap (icells m) (by simp [icells]) (fun j x hj => (TAt.src HU j x hj).1) (icells_one m) (by unfold maxLen; omega) (by omega) hB
    refine ⟨v', W', h1, ?_, h3, h4⟩
    unfold TRow
    simpa [icells] using h2

variable {H : Nat → Prop} {w0 wr : World} {b : Nat} {s : HS Int}

theorem x_drop0 (h : PlayX H w0 wr b s) (hm : s.m = []) (v : Value) (xs : List Int) (hx : TAt wr v xs) (hl : xs.length ≤ 2000000) :
    Calls Try.prog 12 #[.pointer (some ⟨b, 0, none⟩), v] wr fun e w' => ∃ v', e = .returned v' ∧ TRow w' wr.heap.size v' xs ∧ Below wr.heap.size wr w' := by
  obtain ⟨S, mv, hv, hh, _⟩ := h
  exact drop_none v xs hh hm hx hl
theorem x_held (h : PlayX H w0 wr b s) : Calls Try.prog 14 #[.pointer (some ⟨b, 0, none⟩)] wr fun e w' => ∃ v', e = .returned v' ∧ TRow w' wr.heap.size v' (s.l.map Prod.fst) ∧ Below wr.heap.size wr w' := by
  obtain ⟨S, mv, hv, hh, _⟩ := h
  exact held_any hh
theorem x_count (h : PlayX H w0 wr b s) : Calls Try.prog 15 #[.pointer (some ⟨b, 0, none⟩)] wr fun e w' => e = .returned (.int .i64 s.m.length) ∧ w' = wr := by
  obtain ⟨S, mv, hv, hh, _⟩ := h
  exact count_any hh
theorem x_has (h : PlayX H w0 wr b s) (x : Int) : Calls Try.prog 16 #[.pointer (some ⟨b, 0, none⟩), .int .i64 x] wr fun e w' => e = .returned (.bool (s.l.any (fun d => d.1 == x))) ∧ Below wr.heap.size wr w' := by
  obtain ⟨S, mv, hv, hh, _⟩ := h
  exact has_any hh x

end Go.Proofs.Ytgfbcekmnpdoeaa.Hdi
