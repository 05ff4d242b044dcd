/-
  append onto an empty row of the document's extents, of any row of them; an inode under way. No condition.
-/
import Derived.Test.YtadimbpgdihjlaaDoorIdFree
import Derived.Laws.AppendOwnNone
import Derived.Lib.AppendZeros
namespace Go.Proofs.YtadimbpgdihjlaaDoor.Id
open Go.ChangeShapes Go.WideShapes Go.ChangeAt Go.RowKit Go.Proofs.Fa

theorem info_extR' : (Tryd.prog.info? 39).map (fun i => (i.zero, i.size, i.bytes)) = some (some (.agg #[.int .i64 0, .int .i64 0]), 2, 16) := by kernel_rfl
/-- A region's append whose run is known. -/
theorem wpH_app {P : Program} {o : Oper} {a : Act} {w w' : World} {tm : Nat → Option Bool} {K : Act → World → Prop} {Q : Exit → Act → World → Prop} {s x : Operand} {t : TypeId} {v v2 v' : Value} (hwant : Region.wanted o tm = true)
    (ho : o.op = .call { callee := .builtin .append, args := #[s, x], argTypes := #[t, t] }) (hs : a.eval s = v) (hx : a.eval x = v2) (hr : (Builtin.append_ #[t, t] o.type #[v, v2]).run P w = .ok v' w') (hK : K (a.put o.dst v') w') :
    if Region.wanted o tm = true then Oper.wp P o a w K Q else K (a.put o.dst undef) w := by
  rw [if_pos hwant]
  unfold Oper.wp execOp
  simp only [ho, resolve, invoke, builtin, Sem.run_bind, Sem.run_pure, Result.andThen_ok, List.map_toArray, List.map_cons, List.map_nil, hs, hx, hr]
  exact hK

theorem lit_row {W : World} {gb B0 e : Nat} (h : W.heap[gb]? = some (.cells #[] e (0, 0))) (hB : B0 ≤ gb) (size : Nat) : W.ownsRow B0 e size (.slice (some ⟨gb, 0, none⟩) 0 0) 0 [] :=
  ⟨by simp, .inr ⟨gb, 0, #[], rfl, hB, h, Nat.le_refl _, Nat.zero_le _, by simp, by simp⟩⟩

/-- append(an empty row, a row...): a row of its own. -/
theorem copyR_run {W : World} {B gb B0 : Nat} (v : Value) (l : List Ext) (hr : RowR W B v l) (hn : l.length ≤ 2000000) (hlit : W.heap[gb]? = some (.cells #[] 39 (0, 0))) (hB : B0 ≤ gb) (ty : TypeId) :
    ∃ v' W', (Builtin.append_ #[27, 27] ty #[.slice (some ⟨gb, 0, none⟩) 0 0, v]).run Tryd.prog W = .ok v' W' ∧ RowR W' B0 v' l ∧ W.grownBy W' (some gb) ∧ Near W (.slice (some ⟨gb, 0, none⟩) 0 0) v' := by
  obtain ⟨i0, hi, hz0, hz1, hz2⟩ := info_parts info_extR'
  have hown := lit_row hlit hB 2
  rcases hr.2 with ⟨rfl, h0⟩ | ⟨g, cap, cur, rfl, _⟩
  · have hl : l = [] := List.eq_nil_of_length_eq_zero h0
    subst hl
    refine ⟨_, _, run_append_owned_none (P := Tryd.prog) (w := W) B0 _ ty _ i0 2 Tryd.underlying27 hi _ 0 [] hown, hown, World.grownBy.refl _ _, .inl rfl⟩
  · have hsrc := World.ownsRow.cells (g := g) hr rfl
    obtain ⟨v', W', hrun, ho, hg, hnr⟩ := run_append_near (P := Tryd.prog) (w := W) B0 27 ty 39 i0 _ 2 16 Tryd.underlying27 hi hz0 hz1 hz2 rfl (by decide) _ 0 [] hown ⟨g, 0, none⟩ l.length cap (ecells l) (ecells_length l) hsrc (ecells_one l) (by unfold maxLen; omega) (by omega) (Nat.le_trans hB (Nat.le_of_lt (lt_of_heap hlit)))
    refine ⟨v', W', hrun, ?_, hg, hnr⟩
    rw [Nat.zero_add, List.nil_append] at ho
    exact ho

/-- A document's inode under way at block yb, its extents in a row of its own. -/
structure OutR (w W : World) (yb : Nat) (ver : Int) (v : Value) (l : List Ext) : Prop where
  y : W.heap[yb]? = some (.cells #[.int .i64 ver, v] 29 (0, 0))
  row : RowR W w.heap.size v l
  below : Below w.heap.size w W
  yge : w.heap.size ≤ yb
  ne : ∀ i, v.ownBlock = some i → i ≠ yb

end Go.Proofs.YtadimbpgdihjlaaDoor.Id
