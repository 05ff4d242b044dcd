/-
  The program's Get of a program's bytes. No condition.
-/
import Derived.Test.YtielliiadacbbaaDoorCdI
import Derived.Test.YtielliiadacbbaaDoorFaApp
namespace Go.Proofs.YtielliiadacbbaaDoor.Cd
open Go.ChangeShapes Go.WideShapes Go.ChangeAt Go.RowKit Go.Proofs.Fa
open Go.Proofs.YtielliiadacbbaaDoor.Nv (lt_of_heap lt_of_cell cell_of_heap free_of_heap)
open Go.Proofs.YtielliiadacbbaaDoor.Le (putF numF OutS num_any4 string_some errV getF leVal)

set_option maxRecDepth 100000
set_option maxHeartbeats 1000000

/-- The cells of instructions. -/
def icells (l : List In4) : List Value := l.flatMap fun x => [.int .i64 x.op, .int .i64 x.d, .int .i64 x.s, .int .i64 x.imm]
theorem icells_append (l m : List In4) : icells (l ++ m) = icells l ++ icells m := by simp [icells]
theorem icells_length (l : List In4) : (icells l).length = l.length * 4 := by
  induction l with
  | nil => rfl
  | cons x r ih =>
    show ([_, _, _, _] ++ icells r).length = _
    rw [List.length_append, ih, List.length_cons]
    simp only [List.length_cons, List.length_nil]
    omega
theorem icells_one (l : List In4) : ∀ u ∈ icells l, u.oneCell' = true := by
  intro u hu
  obtain ⟨x, _, hu⟩ := List.mem_flatMap.1 hu
  simp only [List.mem_cons, List.not_mem_nil, or_false] at hu
  rcases hu with rfl | rfl | rfl | rfl <;> rfl
theorem icells_get : ∀ (l : List In4) (i : Nat) (h : i < l.length), (icells l)[i * 4]? = some (.int .i64 l[i].op) ∧ (icells l)[i * 4 + 1]? = some (.int .i64 l[i].d) ∧ (icells l)[i * 4 + 2]? = some (.int .i64 l[i].s) ∧ (icells l)[i * 4 + 3]? = some (.int .i64 l[i].imm)
  | [], i, h => by cases h
  | x :: r, 0, _ => ⟨rfl, rfl, rfl, rfl⟩
  | x :: r, i + 1, h => by
    have e : icells (x :: r) = [.int .i64 x.op, .int .i64 x.d, .int .i64 x.s, .int .i64 x.imm] ++ icells r := rfl
    obtain ⟨h0, h1, h2, h3⟩ := icells_get r i (by simpa using h)
    have hc : ∀ j, (icells (x :: r))[(i + 1) * 4 + j]? = (icells r)[i * 4 + j]? := fun j => by
      rw [e, List.getElem?_append_right (by simp only [List.length_cons, List.length_nil]; omega)]
      congr 1
      simp only [List.length_cons, List.length_nil]
      omega
    refine ⟨?_, ?_, ?_, ?_⟩
    · exact (hc 0).trans h0
    · exact (hc 1).trans h1
    · exact (hc 2).trans h2
    · exact (hc 3).trans h3
/-- A row of instructions of one's own. -/
def IRow (w : World) (B : Nat) (v : Value) (l : List In4) : Prop := w.ownsRow B 27 4 v l.length (icells l)
theorem IRow.slice {w : World} {B : Nat} {v : Value} {l : List In4} (h : IRow w B v l) : ∃ a c, v = .slice a l.length c := by
  rcases h.2 with ⟨rfl, hn⟩ | ⟨g, cap, cur, rfl, _⟩
  · exact ⟨none, 0, by rw [hn]⟩
  · exact ⟨_, cap, rfl⟩
theorem IRow.keep {w w' : World} {B : Nat} {v : Value} {l : List In4} (h : IRow w B v l) (hk : ∀ g, v.ownBlock = some g → w'.heap[g]? = w.heap[g]?) : IRow w' B v l := by
  refine ⟨h.1, ?_⟩
  rcases h.2 with hn | ⟨g, cap, cur, rfl, hb', hg, rest⟩
  · exact .inl hn
  · exact .inr ⟨g, cap, cur, rfl, hb', (hk g rfl).trans hg, rest⟩
theorem IRow.lt {w : World} {B : Nat} {v : Value} {l : List In4} (h : IRow w B v l) (g : Nat) (hg : v.ownBlock = some g) : g < w.heap.size := row_lt h g hg
theorem IRow.below {w w' : World} {B : Nat} {v : Value} {l : List In4} (h : IRow w B v l) (hb : Below w.heap.size w w') : IRow w' B v l := h.keep (fun g hg => hb.block g (h.lt g hg))
theorem IRow.ge {w : World} {B : Nat} {v : Value} {l : List In4} (h : IRow w B v l) (g : Nat) (hg : v.ownBlock = some g) : B ≤ g := by
  rcases h.2 with ⟨rfl, _⟩ | ⟨g', cap, cur, rfl, hb', _⟩
  · cases hg
  · cases hg
    exact hb'
theorem IRow.at {w : World} {B : Nat} {v : Value} {l : List In4} (h : IRow w B v l) : InsAt w v l := by
  have hl := icells_length l
  rcases h.2 with ⟨rfl, h0⟩ | ⟨g, cap, cur, rfl, hb, hg, hnc, hcm, hcs, ht⟩
  · exact .inl ⟨rfl, List.eq_nil_of_length_eq_zero h0⟩
  · refine .inr ⟨g, 0, cap, rfl, hnc, hcm, lt_of_heap hg, fun i hi => ?_⟩
    obtain ⟨e0, e1, e2, e3⟩ := icells_get l i hi
    have c0 := World.ownsRow.cells (g := g) h rfl (i * 4) _ e0
    have c1 := World.ownsRow.cells (g := g) h rfl (i * 4 + 1) _ e1
    have c2 := World.ownsRow.cells (g := g) h rfl (i * 4 + 2) _ e2
    have c3 := World.ownsRow.cells (g := g) h rfl (i * 4 + 3) _ e3
    rw [Addr.add_lit] at c0 c1 c2 c3
    exact ⟨c0, c1, c2, c3⟩

theorem info_ins : (Tryd.prog.info? 27).map (fun i => (i.zero, i.size, i.bytes)) = some (some (.agg #[.int .i64 0, .int .i64 0, .int .i64 0, .int .i64 0]), 4, 32) := by kernel_rfl

theorem info_parts {o : Option TypeInfo} {z : Option Value} {s b : Nat} (h : o.map (fun i => (i.zero, i.size, i.bytes)) = some (z, s, b)) : ∃ i, o = some i ∧ i.zero = z ∧ i.size = s ∧ i.bytes = b := by
  cases o with
  | none => cases h
  | some i => simp at h; exact ⟨i, rfl, h.1, h.2.1, h.2.2⟩
theorem wpList_append_run {P : Program} {w : World} {ops : Array Oper} {rest : List Oper} {o : Oper} {a : Act} {Q : Exit → Act → World → Prop} (hgd : o.guard = none) (s x : Operand) (t : TypeId)
    (ho : o.op = .call { callee := .builtin .append, args := #[s, x], argTypes := #[t, t] }) (v u : Value) (hs : a.eval s = v) (hx : a.eval x = u) {v' : Value} {w' : World}
    (hr : (Builtin.append_ #[t, t] o.type #[v, u]).run P w = .ok v' w') (h : wpList P ops Q rest (a.put o.dst v') w') : wpList P ops Q (o :: rest) a w := by
  refine wpList_plain hgd fun _ hK => ?_
  unfold Oper.wp execOp
  simp only [ho, resolve, invoke, builtin, Sem.run_bind, Sem.run_pure, Result.andThen_ok, List.map_toArray, List.map_cons, List.map_nil, hs, hx, hr]
  exact hK _ _ h
/-- One instruction more. -/
theorem app_ins {W : World} {B : Nat} {v : Value} {l : List In4} (h : IRow W B v l) (hB : B ≤ W.heap.size) (hl : l.length ≤ 100000) (x : In4) :
    ∃ v' W', (Builtin.append_ #[24, 24] 24 #[v, .slice (some ⟨W.heap.size, 0, none⟩) 1 1]).run Tryd.prog (W.alloc (Obj.cells #[.int .i64 x.op, .int .i64 x.d, .int .i64 x.s, .int .i64 x.imm] 27)) = .ok v' W' ∧ IRow W' B v' (l ++ [x]) ∧ Below B W W' ∧ (∀ k, k < W.heap.size → v.ownBlock ≠ some k → W'.heap[k]? = W.heap[k]?) := by
  obtain ⟨i0, hi, hz0, hz1, hz2⟩ := info_parts info_ins
  have hb : Below W.heap.size W (W.alloc (Obj.cells #[.int .i64 x.op, .int .i64 x.d, .int .i64 x.s, .int .i64 x.imm] 27)) := (Below.refl _ _).alloc (Nat.le_refl _) _
  have hr2 : IRow (W.alloc (Obj.cells #[.int .i64 x.op, .int .i64 x.d, .int .i64 x.s, .int .i64 x.imm] 27)) B v l := h.below hb
  have hn := heap_alloc_new W (Obj.cells #[.int .i64 x.op, .int .i64 x.d, .int .i64 x.s, .int .i64 x.imm] 27)
  obtain ⟨v', W', hrun, hr, hg, _⟩ := run_append_near (P := Tryd.prog) (w := W.alloc (Obj.cells #[.int .i64 x.op, .int .i64 x.d, .int .i64 x.s, .int .i64 x.imm] 27)) B 24 24 27 i0 _ 4 32 Tryd.underlying24 hi hz0 hz1 hz2 rfl (by decide) v l.length (icells l) hr2
    ⟨W.heap.size, 0, none⟩ 1 1 [.int .i64 x.op, .int .i64 x.d, .int .i64 x.s, .int .i64 x.imm] rfl (fun j u hu => by
      rw [Addr.add_lit]
      match j, hu with
      | 0, hu => cases hu; exact cell_of_heap hn 0 _ rfl
      | 1, hu => cases hu; exact cell_of_heap hn 1 _ rfl
      | 2, hu => cases hu; exact cell_of_heap hn 2 _ rfl
      | 3, hu => cases hu; exact cell_of_heap hn 3 _ rfl) (by intro u hu; simp only [List.mem_cons, List.not_mem_nil, or_false] at hu; rcases hu with rfl | rfl | rfl | rfl <;> rfl) (by unfold maxLen; omega) (by omega) (by rw [World.size_alloc]; omega)
  refine ⟨v', W', hrun, ?_, (hb.mono (by omega)).grown hg (by rw [World.size_alloc]; omega) (fun k e => h.ge k e), fun k hk hne => (hg.block k (by rw [World.size_alloc]; omega) (fun e => hne e.symm)).trans (hb.block k hk)⟩
  unfold IRow
  rw [icells_append, List.length_append]
  exact hr

theorem prog_drop {l : List In4} (h : ∀ x ∈ l, RightP x) (k : Nat) (hk : k < l.length) : (⟨(progB (l.drop k)).toArray⟩ : ByteArray).extract 0 8 = ⟨(insB l[k]).toArray⟩ ∧ (⟨(progB (l.drop k)).toArray⟩ : ByteArray).extract 8 (⟨(progB (l.drop k)).toArray⟩ : ByteArray).size = ⟨(progB (l.drop (k + 1))).toArray⟩ := by
  have hl := insB_length (h l[k] (List.getElem_mem hk))
  have e : progB (l.drop k) = insB l[k] ++ progB (l.drop (k + 1)) := by rw [List.drop_eq_getElem_cons hk]; rfl
  constructor
  · apply ext_bytes
    rw [extract_data]
    show ((progB (l.drop k)).drop 0).take 8 = insB l[k]
    rw [e, List.drop_zero, List.take_left' hl]
  · apply ext_bytes
    rw [extract_data]
    show ((progB (l.drop k)).drop 8).take ((progB (l.drop k)).toArray.size - 8) = progB (l.drop (k + 1))
    rw [e, List.drop_left' hl, List.size_toArray, List.length_append, hl, List.take_of_length_le (by omega)]

theorem get_any (l : List In4) (h : ∀ x ∈ l, RightP x) (hl : l.length ≤ 128) (w : World) :
    Calls Tryd.prog 12 #[.string ⟨(progB l).toArray⟩] w fun r w' => ∃ v, r = .returned (.tuple #[v, .nilIface]) ∧ IRow w' w.heap.size v l ∧ Below w.heap.size w w' := by
  have HF := fun w => form_any l h hl w
  have HF' : Hid (∀ w, _) := HF
  have HR : Hid (∀ x ∈ l, RightP x) := h
  have HL : Hid (l.length ≤ 128) := hl
  have HSZ : Hid (∀ k, k ≤ l.length → (⟨(progB (l.drop k)).toArray⟩ : ByteArray).size = 8 * (l.length - k)) := fun k hk => by
    show (progB (l.drop k)).toArray.size = _
    rw [List.size_toArray, progB_length (fun x hx => h x (List.mem_of_mem_drop hx)), List.length_drop]
  clear HF h hl
  obtain ⟨s, hs⟩ : ∃ s : ByteArray, s = ⟨(progB l).toArray⟩ := ⟨_, rfl⟩
  have HS : Hid (s = ⟨(progB (l.drop 0)).toArray⟩) := hs
  have hd : decide ((1024 : Int) < (s.size : Int)) = false := by
    have := HSZ.out 0 (Nat.zero_le _)
    rw [← HS.out] at this
    have := HL.out
    exact decide_eq_false (by omega)
  rw [← hs] at HF' ⊢
  clear hs
  go_enter Tryd.func12, Tryd.ntmps12
  go_wp2_with fail
  refine (HF'.out _).mono ?_
  rintro r w1 ⟨rfl, hw1⟩
  subst hw1
  clear HF'
  go_wp2_with fail
  go_loopw [0, 4] (fun sv lv wr => ∃ (k : Nat) (s : ByteArray), k ≤ l.length ∧ sv = .string s ∧ s = ⟨(progB (l.drop k)).toArray⟩ ∧ IRow wr w1.heap.size lv (l.take k) ∧ Below w1.heap.size w1 wr) (fun sv _ _ => match sv with | .string s => s.size | _ => 0)
  case atStart => exact ⟨0, s, Nat.zero_le _, rfl, HS.out, World.ownsRow_nil _ _ _ _, Below.refl _ _⟩
  case round =>
    obtain ⟨k, s, hk, rfl, hsk, hrow, hbel⟩ := hrel
    have HSK : Hid (s = ⟨(progB (l.drop k)).toArray⟩) := hsk
    have HROW : Hid (IRow wr w1.heap.size u4 (l.take k)) := hrow
    have HB : Hid (Below w1.heap.size w1 wr) := hbel
    have hz := HSZ.out k hk
    rw [← hsk] at hz
    have HZ : Hid (s.size = 8 * (l.length - k)) := hz
    clear hsk hrow hbel hz HS hd
    by_cases hlt : k < l.length
    · have hx := HR.out _ (List.getElem_mem hlt)
      obtain ⟨p1, p2⟩ := prog_drop HR.out k hlt
      rw [← HSK.out] at p1 p2
      have hne : s.toList.isEmpty = false := Le.isEmpty_false (fun e => by have := HZ.out; rw [e] at this; have h0 : (ByteArray.empty).size = 0 := rfl; omega)
      have h8 : 8 ≤ s.size := by have := HZ.out; omega
      have HI : Hid (∀ w, _) := fun w => ins_any l[k] hx w
      have HRI : Hid (∀ w, _) := fun w => right_any l[k] w
      rw [decide_eq_true hx] at HRI
      have HTS : Hid (l.take (k + 1) = l.take k ++ [l[k]]) := List.take_succ_eq_append_getElem hlt
      have hsz8 : 8 ≤ s.size ∧ s.size ≤ s.size := ⟨h8, Nat.le_refl _⟩
      obtain ⟨a4, c4, h4⟩ := HROW.out.slice
      rw [show (l.take k).length = k by rw [List.length_take]; omega] at h4
      subst h4
      generalize l[k] = x at *
      go_wp2_with fail
      refine (HI.out _).mono ?_
      rintro r w2 ⟨rfl, hb2⟩
      obtain ⟨w3, hw3⟩ : ∃ w3, w3 = w2.alloc (Obj.cells #[.int .i64 x.op, .int .i64 x.d, .int .i64 x.s, .int .i64 x.imm] 27) := ⟨_, rfl⟩
      have HB2 : Hid (Below w1.heap.size w1 w2) := HB.out.trans (hb2.mono HB.out.size)
      have HB3 : Hid (Below w1.heap.size w1 w3) := by rw [hw3]; exact HB2.out.alloc HB2.out.size _
      have HX3 : Hid (w3.heap[w2.heap.size]? = some (.cells #[.int .i64 x.op, .int .i64 x.d, .int .i64 x.s, .int .i64 x.imm] 27 (0, 0))) := by rw [hw3]; exact heap_alloc_new _ _
      have HR3 : Hid (IRow w3 w1.heap.size (.slice a4 k c4) (l.take k)) := by rw [hw3]; exact (HROW.out.below hb2).below ((Below.refl _ _).alloc (Nat.le_refl _) _)
      have c0 := cell_of_heap HX3.out 0 _ rfl
      have c1 := cell_of_heap HX3.out 1 _ rfl
      have c2 := cell_of_heap HX3.out 2 _ rfl
      have c3 := cell_of_heap HX3.out 3 _ rfl
      clear hb2 HB2 HROW HB HI
      go_wp2_with fail
      rw [← hw3]
      clear hw3
      go_wp2_with fail
      refine (HRI.out _).mono ?_
      rintro r w4 ⟨rfl, hb4⟩
      have HB4 : Hid (Below w1.heap.size w1 w4) := HB3.out.trans (hb4.mono HB3.out.size)
      have HX4 : Hid (w4.heap[w2.heap.size]? = some (.cells #[.int .i64 x.op, .int .i64 x.d, .int .i64 x.s, .int .i64 x.imm] 27 (0, 0))) := (hb4.block _ (lt_of_heap HX3.out)).trans HX3.out
      have HR4 : Hid (IRow w4 w1.heap.size (.slice a4 k c4) (l.take k)) := HR3.out.below hb4
      clear hb4 HB3 HX3 HR3 HRI c0 c1 c2 c3
      have c0 := cell_of_heap HX4.out 0 _ rfl
      have c1 := cell_of_heap HX4.out 1 _ rfl
      have c2 := cell_of_heap HX4.out 2 _ rfl
      have c3 := cell_of_heap HX4.out 3 _ rfl
      obtain ⟨v5, w5, hrun, hr5, hb5, _⟩ := app_ins HR4.out HB4.out.size (by rw [List.length_take]; have := HL.out; omega) x
      have HR5 : Hid (IRow w5 w1.heap.size v5 (l.take (k + 1))) := by show IRow _ _ _ _; rw [HTS.out]; exact hr5
      have HB5 : Hid (Below w1.heap.size w1 w5) := HB4.out.trans hb5
      clear hr5 hb5 HR4 HX4 HB4
      clear hsz8 p1 hne hx
      go_wp2_with (at_builtin; refine wpList_append_run rfl _ _ _ rfl _ _ rfl rfl hrun ?_)
      go_roundw
      case rel => exact ⟨k + 1, _, hlt, rfl, rfl, HR5.out, HB5.out⟩
      case measure =>
        show ByteArray.size _ < s.size
        rw [HSZ.out (k + 1) hlt]
        have := HZ.out
        omega
    · have hkn : k = l.length := by omega
      have hz0 : s.size = 0 := by have := HZ.out; omega
      have hse : s.toList.isEmpty = true := Le.isEmpty_true (ByteArray.size_eq_zero_iff.1 hz0)
      have HR5 : Hid (IRow wr w1.heap.size u4 l) := by have := HROW.out; rw [hkn, List.take_length] at this; exact this
      obtain ⟨a4, c4, h4⟩ := HR5.out.slice
      subst h4
      clear HROW hz0 hkn
      go_wp2_with fail
      go_ret2
      exact ⟨_, rfl, HR5.out, HB.out⟩

end Go.Proofs.YtielliiadacbbaaDoor.Cd
