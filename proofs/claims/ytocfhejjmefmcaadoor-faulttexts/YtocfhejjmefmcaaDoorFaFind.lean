/-
  Find of any layers round a number: the innermost fault. No condition.
-/
import Derived.Test.YtocfhejjmefmcaaDoorFaMade
import Derived.Test.YtocfhejjmefmcaaDoorFaAll
namespace Go.Proofs.YtocfhejjmefmcaaDoor.Fa
open Go.ChangeShapes Go.WideShapes Go.ChangeAt Go.RowKit Go.Proofs.Fa

/-- The innermost fault of layers: its operation and place. -/
def lastF : List Layer → Option (ByteArray × Int)
  | [] => none
  | y :: r => match lastF r with
    | some z => some z
    | none => if y.join = true then none else some (y.op, y.pos)
theorem lastF_snoc (l : List Layer) (y : Layer) : lastF (l ++ [y]) = if y.join = true then lastF l else some (y.op, y.pos) := by
  induction l with
  | nil => simp [lastF]
  | cons z r ih =>
    rw [List.cons_append]
    simp only [lastF, ih]
    by_cases h : y.join = true
    · simp [h]
    · simp [h]
def opF (o : Option (ByteArray × Int)) : ByteArray := (o.map (·.1)).getD ⟨#[]⟩
def posF (o : Option (ByteArray × Int)) : Int := (o.map (·.2)).getD 0

set_option maxRecDepth 100000
set_option maxHeartbeats 2000000
theorem value_some (g : Nat) (op : ByteArray) (n : Int) (v : Value) (hv : IsI v) (w : World) (h : w.heap[g]? = some (.cells #[.string op, .int .i64 n, v] 46 (0, 0))) :
    Calls Tryd.prog 30 #[.pointer (some ⟨g, 0, none⟩)] w fun e w' => e = .returned (.agg #[.string op, .int .i64 n, v]) ∧ Below w.heap.size w w' := by
  have hlt := lt_of_heap h
  have c0 : w.cell? ⟨g, 0, none⟩ = some (.string op) := cell_of_heap h 0 _ rfl
  have c1 : w.cell? ⟨g, 1, none⟩ = some (.int .i64 n) := cell_of_heap h 1 _ rfl
  have c2 : w.cell? ⟨g, 2, none⟩ = some v := cell_of_heap h 2 _ rfl
  clear h
  rcases hv with rfl | ⟨t, u, rfl⟩
  all_goals
    go_enter Tryd.func30, Tryd.ntmps30
    go_wp2
    refine bodyPost_ret (v := .agg #[.string op, .int .i64 n, _]) (by simp [results, Tryd.f30, go_sem]; rfl) rfl ?_
    exact ⟨rfl, (Below.refl _ _).alloc (Nat.le_refl _) _⟩

theorem first_errno (n : Int) (w : World) : Calls Tryd.prog 40 #[.iface 36 (.int .i64 n)] w fun e w' => e = .returned .nilIface ∧ w' = w := by
  go_enter Tryd.func40, Tryd.ntmps40
  go_wp2_with (go_at_call 47; refine (below_errno _ _).mono ?_; rintro r w1 ⟨rfl, rfl⟩)
  go_ret
  exact ⟨rfl, rfl⟩
theorem first_many (g cap : Nat) (v : Value) (hv : IsI v) (w : World) (h : w.cell? ⟨g, 0, none⟩ = some v) : Calls Tryd.prog 40 #[.iface 56 (.slice (some ⟨g, 0, none⟩) 2 cap)] w fun e w' => e = .returned v ∧ w' = w := by
  rcases hv with rfl | ⟨t, u, rfl⟩
  all_goals
    go_enter Tryd.func40, Tryd.ntmps40
    go_wp2_with (go_at_call 47; refine (below_many _ _).mono ?_; rintro r w1 ⟨rfl, rfl⟩)
    go_ret
    exact ⟨rfl, rfl⟩
theorem first_fault (g : Nat) (op : ByteArray) (n : Int) (v : Value) (hv : IsI v) (w : World) (h : w.heap[g]? = some (.cells #[.string op, .int .i64 n, v] 46 (0, 0))) :
    Calls Tryd.prog 40 #[.iface 44 (.pointer (some ⟨g, 0, none⟩))] w fun e w' => e = .returned v ∧ w' = w.alloc (.cells #[v] 25) := by
  have H : Hid (w.heap[g]? = some (.cells #[.string op, .int .i64 n, v] 46 (0, 0))) := h
  have hv' : Hid (IsI v) := hv
  clear h
  rcases hv with rfl | ⟨t, u, rfl⟩
  all_goals
    go_enter Tryd.func40, Tryd.ntmps40
    go_wp2_with fail
    refine (below_fault _ _ _ _ hv'.out _ H.out).mono ?_
    rintro r w1 ⟨rfl, rfl⟩
    go_wp2
    go_ret
    exact ⟨rfl, rfl⟩

/-- Where Find stands: what is still ahead (none: nothing). -/
def FindAt (w : World) (m : Int) (l : List Layer) (st : Option (List Layer)) (v f : Value) (wr : World) : Prop :=
  ∃ pre x, (match st with | some r => l = pre ++ r ∧ ErrAt w (some (some m)) r v | none => l = pre ∧ v = .nilIface) ∧ f = .bool (lastF pre).isSome ∧ IsI x ∧
    wr.heap[w.heap.size + 1]? = some (.cells #[.string (opF (lastF pre)), .int .i64 (posF (lastF pre)), x] 46 (0, 0)) ∧
    wr.heap[w.heap.size]? = some (.cells #[.string ⟨#[]⟩, .int .i64 0, .nilIface] 46 (0, 0)) ∧ Below w.heap.size w wr
def stN : Option (List Layer) → Nat
  | some r => r.length + 1
  | none => 0
noncomputable def muF (w : World) (m : Int) (l : List Layer) (v f : Value) (wr : World) : Nat := least fun n => ∃ st, FindAt w m l st v f wr ∧ n = stN st
theorem muF_le {w : World} {m : Int} {l : List Layer} {st : Option (List Layer)} {v f : Value} {wr : World} (h : FindAt w m l st v f wr) : muF w m l v f wr ≤ stN st :=
  (least_spec _ ⟨_, st, h, rfl⟩).2 _ ⟨st, h, rfl⟩
theorem muF_at {w : World} {m : Int} {l : List Layer} {v f : Value} {wr : World} (h : ∃ st, FindAt w m l st v f wr) : ∃ st, FindAt w m l st v f wr ∧ muF w m l v f wr = stN st := by
  obtain ⟨st, h⟩ := h
  exact (least_spec (fun n => ∃ st, FindAt w m l st v f wr ∧ n = stN st) ⟨_, st, h, rfl⟩).1

theorem set3_heap {w : World} {nb : Nat} {a0 a1 a2 : Value} {t : TypeId} (h : w.heap[nb]? = some (.cells #[a0, a1, a2] t (0, 0))) (v0 v1 v2 : Value) : (((w.setCell ⟨nb, 0, none⟩ v0).setCell ⟨nb, 1, none⟩ v1).setCell ⟨nb, 2, none⟩ v2).heap[nb]? = some (.cells #[v0, v1, v2] t (0, 0)) := by
  have h0 := heap_setCell_same w nb 0 _ t v0 h
  have h1 := heap_setCell_same _ nb 1 _ t v1 h0
  exact heap_setCell_same _ nb 2 _ t v2 h1
theorem set3_other (w : World) (nb : Nat) (v0 v1 v2 : Value) (j : Nat) (hj : j ≠ nb) : (((w.setCell ⟨nb, 0, none⟩ v0).setCell ⟨nb, 1, none⟩ v1).setCell ⟨nb, 2, none⟩ v2).heap[j]? = w.heap[j]? := by
  rw [heap_setCell_other _ ⟨nb, 2, none⟩ j _ hj, heap_setCell_other _ ⟨nb, 1, none⟩ j _ hj, heap_setCell_other _ ⟨nb, 0, none⟩ j _ hj]
theorem set3_below {B : Nat} {w0 w : World} (h : Below B w0 w) (nb : Nat) (hb : B ≤ nb) (v0 v1 v2 : Value) : Below B w0 (((w.setCell ⟨nb, 0, none⟩ v0).setCell ⟨nb, 1, none⟩ v1).setCell ⟨nb, 2, none⟩ v2) :=
  ((h.setCell (p := ⟨nb, 0, none⟩) hb _).setCell (p := ⟨nb, 1, none⟩) hb _).setCell (p := ⟨nb, 2, none⟩) hb _

theorem res_find (tm : Array Value) (v : Value) (rb : Nat) (W : World) (a0 a1 a2 : Value) (h4 : tm[3]? = some v) (h5 : tm[2]? = some (.pointer (some ⟨rb, 0, none⟩)))
    (h : W.heap[rb]? = some (.cells #[a0, a1, a2] 46 (0, 0))) : (results Tryd.f19 tm).run Tryd.prog W = .ok (.tuple #[.agg #[a0, a1, a2], v]) W := by
  have c0 : W.cell? ⟨rb, 0, none⟩ = some a0 := cell_of_heap h 0 _ rfl
  have c1 : W.cell? ⟨rb, 1, none⟩ = some a1 := cell_of_heap h 1 _ rfl
  have c2 : W.cell? ⟨rb, 2, none⟩ = some a2 := cell_of_heap h 2 _ rfl
  clear h
  simp [results, Tryd.f19, go_sem, h4, h5, c0, c1, c2]

theorem Find_any (m : Int) (l : List Layer) (v : Value) (w : World) (hv : ErrAt w (some (some m)) l v) :
    Calls Tryd.prog 19 #[v] w fun e w' => (∃ x, IsI x ∧ e = .returned (.tuple #[.agg #[.string (opF (lastF l)), .int .i64 (posF (lastF l)), x], .bool (lastF l).isSome])) ∧ Below w.heap.size w w' := by
  have HV : Hid (ErrAt w (some (some m)) l v) := hv
  obtain ⟨t, u, rfl⟩ := hv.iface
  clear hv
  go_enter Tryd.func19, Tryd.ntmps19
  go_wp2
  have hs0 : ((w.alloc (Obj.cells #[.string ⟨#[]⟩, .int .i64 0, .nilIface] 46)).alloc (Obj.cells #[.string ⟨#[]⟩, .int .i64 0, .nilIface] 46)).heap[w.heap.size]? = some (.cells #[.string ⟨#[]⟩, .int .i64 0, .nilIface] 46 (0, 0)) :=
    (Below.heap_alloc _ _ _ (by simp)).trans (heap_alloc_new w _)
  have hs1 : ((w.alloc (Obj.cells #[.string ⟨#[]⟩, .int .i64 0, .nilIface] 46)).alloc (Obj.cells #[.string ⟨#[]⟩, .int .i64 0, .nilIface] 46)).heap[w.heap.size + 1]? = some (.cells #[.string ⟨#[]⟩, .int .i64 0, .nilIface] 46 (0, 0)) := by
    have := heap_alloc_new (w.alloc (Obj.cells #[.string ⟨#[]⟩, .int .i64 0, .nilIface] 46)) (Obj.cells #[.string ⟨#[]⟩, .int .i64 0, .nilIface] 46)
    rw [World.size_alloc] at this
    exact this
  go_loopw [0, 5] (fun e f wr => ∃ st, FindAt w m l st e f wr) (fun e f wr => muF w m l e f wr)
  case atStart => exact ⟨some l, [], .nilIface, ⟨rfl, HV.out⟩, rfl, .inl rfl, hs1, hs0, ((Below.refl _ _).alloc (Nat.le_refl _) _).alloc (by simp) _⟩
  case round =>
    obtain ⟨st, ⟨pre, x, hst, rfl, hx, h1, h0, hb⟩, hmu⟩ := muF_at hrel
    have HMU : Hid (muF w m l _ _ wr = stN st) := hmu
    have HB : Hid (Below w.heap.size w wr) := hb
    have H1 : Hid (wr.heap[w.heap.size + 1]? = some (.cells #[.string (opF (lastF pre)), .int .i64 (posF (lastF pre)), x] 46 (0, 0))) := h1
    have H0 : Hid (wr.heap[w.heap.size]? = some (.cells #[.string ⟨#[]⟩, .int .i64 0, .nilIface] 46 (0, 0))) := h0
    have HX : Hid (IsI x) := hx
    clear hmu hb h1 h0 hrel hs0 hs1
    match st, hst with
    | none, ⟨hl, he⟩ =>
      have HL : Hid (l = pre) := hl
      have he' : _ = Value.nilIface := he
      subst he'
      clear hl he
      have d0 : wr.cell? ⟨w.heap.size + 1, 0, none⟩ = some (.string (opF (lastF pre))) := cell_of_heap H1.out 0 _ rfl
      have d1 : wr.cell? ⟨w.heap.size + 1, 1, none⟩ = some (.int .i64 (posF (lastF pre))) := cell_of_heap H1.out 1 _ rfl
      have d2 : wr.cell? ⟨w.heap.size + 1, 2, none⟩ = some x := cell_of_heap H1.out 2 _ rfl
      have e0 : wr.cell? ⟨w.heap.size, 0, none⟩ = some (.string ⟨#[]⟩) := cell_of_heap H0.out 0 _ rfl
      have e1 : wr.cell? ⟨w.heap.size, 1, none⟩ = some (.int .i64 0) := cell_of_heap H0.out 1 _ rfl
      have e2 : wr.cell? ⟨w.heap.size, 2, none⟩ = some .nilIface := cell_of_heap H0.out 2 _ rfl
      have z0 := free_of_heap H0.out 0
      have z1 := free_of_heap H0.out 1
      have z2 := free_of_heap H0.out 2
      rcases hx with rfl | ⟨tx, ux, rfl⟩
      all_goals
        generalize hof : opF (lastF pre) = ofp at *
        generalize hpf : posF (lastF pre) = pfp at *
        generalize hfb : (lastF pre).isSome = fb at *
        have HFB : Hid (opF (lastF pre) = ofp ∧ posF (lastF pre) = pfp ∧ (lastF pre).isSome = fb) := ⟨hof, hpf, hfb⟩
        clear hof hpf hfb
        go_wp2
        refine bodyPost_ret (v := .tuple #[.agg #[.string ofp, .int .i64 pfp, _], .bool fb]) (res_find _ _ w.heap.size _ _ _ _ rfl rfl (set3_heap H0.out _ _ _)) rfl ?_
        rw [HL.out, HFB.out.1, HFB.out.2.1, HFB.out.2.2]
        exact ⟨⟨_, HX.out, rfl⟩, set3_below HB.out _ (Nat.le_refl _) _ _ _⟩
    | some [], ⟨hl, he⟩ =>
      have he' : _ = Value.iface 36 (.int .i64 m) := he
      subst he'
      have HL : Hid (l = pre) := by show l = pre; rw [hl]; simp
      clear hl he
      go_wp2_with fail
      refine (asFault_errno _ _).mono ?_
      rintro e w1 ⟨rfl, rfl⟩
      go_wp2_with fail
      refine (first_errno _ _).mono ?_
      rintro e w1 ⟨rfl, rfl⟩
      have HF : Hid (FindAt w m l none .nilIface (.bool (lastF pre).isSome) w1) := ⟨pre, x, ⟨HL.out, rfl⟩, rfl, HX.out, H1.out, H0.out, HB.out⟩
      go_wp2
      go_roundw
      case rel => exact ⟨none, HF.out⟩
      case measure => rw [HMU.out]; have := muF_le HF.out; simp only [stN] at *; omega
    | some (y :: r), ⟨hl, he⟩ =>
      have HL : Hid (l = (pre ++ [y]) ++ r) := by show _ = _; rw [hl]; simp
      clear hl
      rcases he with ⟨hj, g, cap, v', rfl, hc0, _, hr⟩ | ⟨hj, g, v', rfl, hg, hr⟩
      · have HLS : Hid (lastF (pre ++ [y]) = lastF pre) := by show _ = _; rw [lastF_snoc, if_pos hj]
        have hc0' : wr.cell? ⟨g, 0, none⟩ = some v' := (HB.out.cell (p := ⟨g, 0, none⟩) (lt_of_cell hc0)).trans hc0
        have HCC : Hid (wr.cell? ⟨g, 0, none⟩ = some v') := hc0'
        have HVI : Hid (IsI v') := hr.isI
        have HRR : Hid (ErrAt w (some (some m)) r v') := hr
        clear hc0 hc0' hr
        go_wp2_with fail
        refine (asFault_many _ _).mono ?_
        rintro e w1 ⟨rfl, rfl⟩
        go_wp2_with fail
        refine (first_many g cap v' HVI.out _ HCC.out).mono ?_
        rintro e w1 ⟨rfl, rfl⟩
        have HF : Hid (FindAt w m l (some r) v' (.bool (lastF pre).isSome) w1) := ⟨pre ++ [y], x, ⟨HL.out, HRR.out⟩, by rw [HLS.out], HX.out, by rw [HLS.out]; exact H1.out, H0.out, HB.out⟩
        go_wp2
        go_roundw
        case rel => exact ⟨some r, HF.out⟩
        case measure => rw [HMU.out]; have := muF_le HF.out; simp only [stN, List.length_cons] at *; omega
      · have HLS : Hid (lastF (pre ++ [y]) = some (y.op, y.pos)) := by show _ = _; rw [lastF_snoc, if_neg (by rw [hj]; decide)]
        have hg' : wr.heap[g]? = some (.cells #[.string y.op, .int .i64 y.pos, v'] 46 (0, 0)) := (HB.out.block _ (lt_of_heap hg)).trans hg
        have HGG : Hid (wr.heap[g]? = some (.cells #[.string y.op, .int .i64 y.pos, v'] 46 (0, 0))) := hg'
        have HGL : Hid (g < w.heap.size) := lt_of_heap hg
        have HVI : Hid (IsI v') := hr.isI
        have HRR : Hid (ErrAt w (some (some m)) r v') := hr
        clear hg hg' hr
        go_wp2_with fail
        refine (asFault_fault _ _).mono ?_
        rintro e w1 ⟨rfl, rfl⟩
        go_wp2_with fail
        refine (value_some g y.op y.pos v' HVI.out _ HGG.out).mono ?_
        rintro e w2 ⟨rfl, hb2⟩
        have HN2 : Hid (w2.heap[w.heap.size + 1]? = _) := (hb2.block _ (lt_of_heap H1.out)).trans H1.out
        have HR2 : Hid (w2.heap[w.heap.size]? = _) := (hb2.block _ (lt_of_heap H0.out)).trans H0.out
        have HG2 : Hid (w2.heap[g]? = _) := (hb2.block _ (lt_of_heap HGG.out)).trans HGG.out
        have HB2 : Hid (Below w.heap.size w w2) := HB.out.trans (hb2.mono HB.out.size)
        have d0 : w2.cell? ⟨w.heap.size + 1, 0, none⟩ = some (.string (opF (lastF pre))) := cell_of_heap HN2.out 0 _ rfl
        have d1 : w2.cell? ⟨w.heap.size + 1, 1, none⟩ = some (.int .i64 (posF (lastF pre))) := cell_of_heap HN2.out 1 _ rfl
        have d2 : w2.cell? ⟨w.heap.size + 1, 2, none⟩ = some x := cell_of_heap HN2.out 2 _ rfl
        have z0 := free_of_heap HN2.out 0
        have z1 := free_of_heap HN2.out 1
        have z2 := free_of_heap HN2.out 2
        clear hb2
        have HFF : Hid (∀ w4 : World, w4 = ((((w2.setCell ⟨w.heap.size + 1, 0, none⟩ (.string y.op)).setCell ⟨w.heap.size + 1, 1, none⟩ (.int .i64 y.pos)).setCell ⟨w.heap.size + 1, 2, none⟩ v').alloc (.cells #[v'] 25)) → FindAt w m l (some r) v' (.bool true) w4) := by
          intro w4 hw4
          have hl2 : w.heap.size + 1 < w2.heap.size := lt_of_heap HN2.out
          refine ⟨pre ++ [y], v', ⟨HL.out, HRR.out⟩, by rw [HLS.out]; rfl, HVI.out, ?_, ?_, ?_⟩
          · rw [hw4, HLS.out]
            exact (Below.heap_alloc _ _ _ (by simp; omega)).trans (set3_heap HN2.out _ _ _)
          · rw [hw4]
            exact (Below.heap_alloc _ _ _ (by simp; omega)).trans ((set3_other _ _ _ _ _ _ (by omega)).trans HR2.out)
          · rw [hw4]
            exact (set3_below HB2.out (w.heap.size + 1) (by omega) _ _ _).alloc (by have := HB2.out.size; simp; omega) _
        rcases HVI.out with hv0 | ⟨tv, uv, hv0⟩
        all_goals
          subst hv0
          go_wp2_with fail
          refine (first_fault g y.op y.pos _ HVI.out _ ((set3_other _ _ _ _ _ g (by have := HGL.out; omega)).trans HG2.out)).mono ?_
          rintro e w4 ⟨rfl, hw4⟩
          have HF : Hid (FindAt w m l (some r) _ (.bool true) w4) := HFF.out _ hw4
          clear hw4
          go_wp2
          go_roundw
          case rel => exact ⟨some r, HF.out⟩
          case measure => rw [HMU.out]; have := muF_le HF.out; simp only [stN, List.length_cons] at *; omega

end Go.Proofs.YtocfhejjmefmcaaDoor.Fa
