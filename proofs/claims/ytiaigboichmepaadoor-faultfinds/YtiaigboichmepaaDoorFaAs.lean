/-
  errors.As of any layers round a number, where a *fault.Fault is wanted: the outermost fault. No condition.
-/
import Derived.Test.YtiaigboichmepaaDoorFaAsF
import Derived.Test.YtiaigboichmepaaDoorFaMade
import Derived.LoopN
namespace Go.Proofs.YtiaigboichmepaaDoor.Fa
open Go.ChangeShapes Go.WideShapes Go.ChangeAt Go.RowKit Go.Proofs.Fa Go.Extern Go.Stop Go.Extern.Stop
open Go.Proofs.YtiaigboichmepaaDoor.As (ErrT mKind mElem mImpl mAssign tOfE)

/-- The outermost fault of layers: its operation and place. -/
def firstF : List Layer → Option (ByteArray × Int)
  | [] => none
  | y :: r => if y.join = true then firstF r else some (y.op, y.pos)

/-- What errors.As leaves. -/
def AsAt (w : World) (tb : Nat) (o : Option (ByteArray × Int)) (w' : World) : Prop :=
  But tb w w' ∧ match o with
  | some p => ∃ g x, w'.heap[tb]? = some (.cells #[.pointer (some ⟨g, 0, none⟩)] 44 (0, 0)) ∧ w'.heap[g]? = some (.cells #[.string p.1, .int .i64 p.2, x] 46 (0, 0))
  | none => w'.heap[tb]? = w.heap[tb]?

theorem asAt_set {w : World} {tb g : Nat} {op : ByteArray} {n : Int} {x : Value} (hg : w.heap[g]? = some (.cells #[.string op, .int .i64 n, x] 46 (0, 0))) (ht : w.heap[tb]? = some (.cells #[.pointer none] 44 (0, 0))) (o1 o2 : Obj) :
    AsAt w tb (some (op, n)) (((w.setCell ⟨tb, 0, none⟩ (.pointer (some ⟨g, 0, none⟩))).alloc o1).alloc o2) := by
  have hgt : g ≠ tb := by
    rintro rfl
    rw [hg] at ht
    simp at ht
  have hl := lt_of_heap ht
  have hlg := lt_of_heap hg
  have e : ∀ j, j < w.heap.size → (((w.setCell ⟨tb, 0, none⟩ (.pointer (some ⟨g, 0, none⟩))).alloc o1).alloc o2).heap[j]? = (w.setCell ⟨tb, 0, none⟩ (.pointer (some ⟨g, 0, none⟩))).heap[j]? := fun j hj =>
    (Below.heap_alloc _ _ _ (by simp; omega)).trans (Below.heap_alloc _ _ _ (by simpa using hj))
  refine ⟨⟨by simp; omega, fun j hj hn => (e j hj).trans (heap_setCell_other w ⟨tb, 0, none⟩ j _ hn)⟩, g, x, ?_, ?_⟩
  · exact (e tb hl).trans (heap_setCell_same w tb 0 _ _ _ ht)
  · exact (e g hlg).trans ((heap_setCell_other w ⟨tb, 0, none⟩ g _ hgt).trans hg)

theorem AsAt.before {w w1 w2 : World} {tb : Nat} {o : Option (ByteArray × Int)} (hb : Below w.heap.size w w1) (ht : tb < w.heap.size) (h : AsAt w1 tb o w2) : AsAt w tb o w2 := by
  refine ⟨(But.below hb).trans h.1, ?_⟩
  cases o with
  | none => exact (show w2.heap[tb]? = w1.heap[tb]? from h.2).trans (hb.block tb ht)
  | some p => exact h.2
theorem AsAt.behind {w w1 w2 : World} {tb : Nat} (hb : Below w1.heap.size w1 w2) (ht : tb < w1.heap.size) (h : AsAt w tb none w1) : AsAt w tb none w2 :=
  ⟨h.1.trans (But.below hb), (hb.block tb ht).trans h.2⟩

/-- The value that errors.As makes of the target. -/
def tv (vb : Nat) : Value := .agg #[.pointer (some ⟨5, 50, none⟩), .pointer (some ⟨vb, 0, none⟩), .int .u64 150]
def tt : Value := .iface 106 (.agg #[.pointer (some ⟨5, 44, none⟩)])

set_option maxRecDepth 100000
set_option maxHeartbeats 4000000
theorem as_number (n : Int) (tb vb : Nat) (w : World) :
    Calls Tryd.prog 39 #[.iface 36 (.int .i64 n), .iface 50 (.pointer (some ⟨tb, 0, none⟩)), tv vb, tt] w fun e w' => e = .returned (.bool false) ∧ Below w.heap.size w w' := by
  have e7 := @run_callFunc_extern Tryd.prog 34 _ ReflectliteType.typeOf Tryd.func34 (by kernel_rfl) (by kernel_rfl) (by kernel_rfl) (by kernel_rfl)
  have e8 := @run_callFunc_extern Tryd.prog 89 _ (ReflectliteType.relation "AssignableTo" ReflectliteType.assignableTo) Tryd.func89 (by kernel_rfl) (by kernel_rfl) (by kernel_rfl) (by kernel_rfl)
  have f6 := mAssign
  have f11 := tOfE
  have f12 := assEF
  have h1 := hasAs_Errno (.int .i64 n)
  have h2 := hasUn_Errno (.int .i64 n)
  have h3 := hasUs_Errno (.int .i64 n)
  unfold tv tt
  go_enter Tryd.func39, Tryd.ntmps39
  go_wp2
  refine wp_loop_rounds 1 ?_
  rw [rounds_succ]
  go_wp2
  go_ret
  exact ⟨rfl, (Below.refl _ _).alloc (Nat.le_refl _) _⟩

theorem as_fault (g tb vb : Nat) (op : ByteArray) (n : Int) (x : Value) (w : World) (hg : w.heap[g]? = some (.cells #[.string op, .int .i64 n, x] 46 (0, 0))) (hv : w.cell? ⟨vb, 0, none⟩ = some (.pointer (some ⟨tb, 0, none⟩))) (ht : w.heap[tb]? = some (.cells #[.pointer none] 44 (0, 0))) :
    Calls Tryd.prog 39 #[.iface 44 (.pointer (some ⟨g, 0, none⟩)), .iface 50 (.pointer (some ⟨tb, 0, none⟩)), tv vb, tt] w fun e w' => e = .returned (.bool true) ∧ AsAt w tb (some (op, n)) w' ∧ Below tb w w' := by
  have e1 := @run_callFunc_extern Tryd.prog 36 _ (fun args => ReflectliteValue.unpack (args.getD 0 (.tuple #[]))) Tryd.func36 (by kernel_rfl) (by kernel_rfl) (by kernel_rfl) (by kernel_rfl)
  have e7 := @run_callFunc_extern Tryd.prog 34 _ ReflectliteType.typeOf Tryd.func34 (by kernel_rfl) (by kernel_rfl) (by kernel_rfl) (by kernel_rfl)
  have e8 := @run_callFunc_extern Tryd.prog 89 _ (ReflectliteType.relation "AssignableTo" ReflectliteType.assignableTo) Tryd.func89 (by kernel_rfl) (by kernel_rfl) (by kernel_rfl) (by kernel_rfl)
  have e9 := @run_callFunc_extern Tryd.prog 48 _ (ReflectliteValue.method (ReflectliteValue.valueError "reflectlite.Value.Elem" 0) ReflectliteValue.elem) Tryd.func48 (by kernel_rfl) (by kernel_rfl) (by kernel_rfl) (by kernel_rfl)
  have e10 := @run_callFunc_extern Tryd.prog 49 _ ReflectliteValue.set Tryd.func49 (by kernel_rfl) (by kernel_rfl) (by kernel_rfl) (by kernel_rfl)
  have f6 := mAssign
  have f11 := tOfF
  have f12 := assFF
  have f13 := vOfF
  have hvl := lt_of_cell hv
  have htl := lt_of_heap ht
  have g3 := elemVPP ⟨vb, 0, none⟩ ⟨tb, 0, none⟩ (w.alloc (.cells #[.pointer (some ⟨5, 50, none⟩), .pointer (some ⟨vb, 0, none⟩), .int .u64 150] 81)) (by rw [World.cell?_alloc_lt _ _ ⟨vb, 0, none⟩ hvl]; exact hv)
  have g4 := setF ⟨tb, 0, none⟩ ⟨w.heap.size + 1, 0, none⟩ (some ⟨g, 0, none⟩) (.pointer none) ((w.alloc (.cells #[.pointer (some ⟨5, 50, none⟩), .pointer (some ⟨vb, 0, none⟩), .int .u64 150] 81)).alloc (.cells #[.pointer (some ⟨g, 0, none⟩)] 44))
    (by rw [World.cell?_alloc_at _ _ _ _ (by simp)]; rfl)
    (by rw [World.cell?_alloc_lt _ _ ⟨tb, 0, none⟩ (by simp; omega), World.cell?_alloc_lt _ _ ⟨tb, 0, none⟩ htl]; exact cell_of_heap ht 0 _ rfl)
    (by rw [World.frozen?_alloc_old _ _ ⟨tb, 0, none⟩ (by simp; omega), World.frozen?_alloc_old _ _ ⟨tb, 0, none⟩ (Nat.ne_of_lt htl)]; exact free_of_heap ht 0)
  have HG : Hid (w.heap[g]? = some (.cells #[.string op, .int .i64 n, x] 46 (0, 0))) := hg
  have HT : Hid (w.heap[tb]? = some (.cells #[.pointer none] 44 (0, 0))) := ht
  clear hg ht hv
  unfold tv tt
  go_enter Tryd.func39, Tryd.ntmps39
  go_wp2
  refine wp_loop_rounds 1 ?_
  rw [rounds_succ]
  go_wp2
  go_ret
  exact ⟨rfl, asAt_set HG.out HT.out _ _, (((Below.refl tb w).setCell (p := ⟨tb, 0, none⟩) (Nat.le_refl _) _).alloc (by simp; omega) _).alloc (by simp; omega) _⟩

theorem as_layers (m : Int) (tb vb : Nat) : ∀ (l : List Layer) (v : Value) (w : World), ErrAt w (some (some m)) l v → w.cell? ⟨vb, 0, none⟩ = some (.pointer (some ⟨tb, 0, none⟩)) → vb ≠ tb → w.heap[tb]? = some (.cells #[.pointer none] 44 (0, 0)) →
    Calls Tryd.prog 39 #[v, .iface 50 (.pointer (some ⟨tb, 0, none⟩)), tv vb, tt] w fun e w' => e = .returned (.bool (firstF l).isSome) ∧ AsAt w tb (firstF l) w' ∧ Below tb w w'
  | [], v, w, hE, hv, hne, ht => by
    rw [show v = .iface 36 (.int .i64 m) from hE]
    refine (as_number m tb vb w).mono ?_
    rintro e w' ⟨rfl, hb⟩
    exact ⟨rfl, ⟨But.below hb, hb.block tb (lt_of_heap ht)⟩, hb.mono (Nat.le_of_lt (lt_of_heap ht))⟩
  | y :: r, v, w, hE, hv, hne, ht => by
    rcases hE with ⟨hj, g, cap, v', rfl, h0, h1, hr⟩ | ⟨hj, g, v', rfl, hg, hr⟩
    · have IH := as_layers m tb vb r
      have hF : firstF (y :: r) = firstF r := if_pos hj
      rw [hF]
      clear hF
      have HIH : Hid (∀ (v : Value) (w : World), ErrAt w (some (some m)) r v → w.cell? ⟨vb, 0, none⟩ = some (.pointer (some ⟨tb, 0, none⟩)) → vb ≠ tb → w.heap[tb]? = some (.cells #[.pointer none] 44 (0, 0)) →
        Calls Tryd.prog 39 #[v, .iface 50 (.pointer (some ⟨tb, 0, none⟩)), tv vb, tt] w fun e w' => e = .returned (.bool (firstF r).isSome) ∧ AsAt w tb (firstF r) w' ∧ Below tb w w') := IH
      clear IH
      have e7 := @run_callFunc_extern Tryd.prog 34 _ ReflectliteType.typeOf Tryd.func34 (by kernel_rfl) (by kernel_rfl) (by kernel_rfl) (by kernel_rfl)
      have e8 := @run_callFunc_extern Tryd.prog 89 _ (ReflectliteType.relation "AssignableTo" ReflectliteType.assignableTo) Tryd.func89 (by kernel_rfl) (by kernel_rfl) (by kernel_rfl) (by kernel_rfl)
      have f6 := mAssign
      have f11 := tOfM
      have f12 := assMF
      have i1 := hasAs_Many (.slice (some ⟨g, 0, none⟩) 2 cap)
      have i2 := hasUn_Many (.slice (some ⟨g, 0, none⟩) 2 cap)
      have i3 := hasUs_Many (.slice (some ⟨g, 0, none⟩) 2 cap)
      have i4 := mUs (.slice (some ⟨g, 0, none⟩) 2 cap)
      obtain ⟨tx, ux, hx⟩ := hr.iface
      subst hx
      have HR : Hid (ErrAt w (some (some m)) r (.iface tx ux)) := hr
      have HV : Hid (w.cell? ⟨vb, 0, none⟩ = some (.pointer (some ⟨tb, 0, none⟩))) := hv
      have HT : Hid (w.heap[tb]? = some (.cells #[.pointer none] 44 (0, 0))) := ht
      have H0 : Hid (w.cell? ⟨g, 0, none⟩ = some (.iface tx ux)) := h0
      have H1 : Hid (w.cell? ⟨g, 1, none⟩ = some (.iface 36 (.int .i64 y.k))) := h1
      have HTV : Hid (tv vb = .agg #[.pointer (some ⟨5, 50, none⟩), .pointer (some ⟨vb, 0, none⟩), .int .u64 150] ∧ tt = .iface 106 (.agg #[.pointer (some ⟨5, 44, none⟩)])) := ⟨rfl, rfl⟩
      have hb1 : Below w.heap.size w (w.alloc (.cells #[.pointer (some ⟨5, 50, none⟩), .pointer (some ⟨vb, 0, none⟩), .int .u64 150] 81)) := (Below.refl _ _).alloc (Nat.le_refl _) _
      have HB1 : Hid (Below w.heap.size w (w.alloc (.cells #[.pointer (some ⟨5, 50, none⟩), .pointer (some ⟨vb, 0, none⟩), .int .u64 150] 81))) := hb1
      clear hr hv ht h0 h1 hb1
      unfold tv tt
      go_enter Tryd.func39, Tryd.ntmps39
      go_wp2
      refine wp_loop_rounds 1 ?_
      rw [rounds_succ]
      go_wp2_with fail
      refine (many_unwrap g cap (.iface tx ux) (.iface 36 (.int .i64 y.k)) _ ((HB1.out.cell (p := ⟨g, 0, none⟩) (lt_of_cell H0.out)).trans H0.out) ((HB1.out.cell (p := ⟨g, 1, none⟩) (lt_of_cell H1.out)).trans H1.out)).mono ?_
      rintro e w2 ⟨k, cap', rfl, hk, c0, c1, hb2⟩
      have HB2 : Hid (Below w.heap.size w w2) := HB1.out.trans (hb2.mono HB1.out.size)
      have hbx : ∀ i, w2.cell? ⟨w.heap.size, i, none⟩ = (w.alloc (.cells #[.pointer (some ⟨5, 50, none⟩), .pointer (some ⟨vb, 0, none⟩), .int .u64 150] 81)).cell? ⟨w.heap.size, i, none⟩ := fun i => hb2.cell (p := ⟨w.heap.size, i, none⟩) (by simp)
      have b0 : w2.cell? ⟨w.heap.size, 0, none⟩ = some (.pointer (some ⟨5, 50, none⟩)) := (hbx 0).trans (by simp)
      have b1 : w2.cell? ⟨w.heap.size, 1, none⟩ = some (.pointer (some ⟨vb, 0, none⟩)) := (hbx 1).trans (by simp)
      have b2 : w2.cell? ⟨w.heap.size, 2, none⟩ = some (.int .u64 150) := (hbx 2).trans (by simp)
      have hk' : w.heap.size < k := by simp at hk; omega
      have htl := lt_of_heap HT.out
      have hlk := lt_of_cell c0
      have C1 : Hid (w2.cell? ⟨k, 1, none⟩ = some (.iface 36 (.int .i64 y.k))) := c1
      have HA := HIH.out (.iface tx ux) w2 (ErrAt.below HB2.out HR.out) ((HB2.out.cell (p := ⟨vb, 0, none⟩) (lt_of_cell HV.out)).trans HV.out) hne ((HB2.out.block tb htl).trans HT.out)
      unfold tv tt at HA
      have HA' : Hid (Calls Tryd.prog 39 #[.iface tx ux, .iface 50 (.pointer (some ⟨tb, 0, none⟩)), .agg #[.pointer (some ⟨5, 50, none⟩), .pointer (some ⟨vb, 0, none⟩), .int .u64 150], .iface 106 (.agg #[.pointer (some ⟨5, 44, none⟩)])] w2 fun e w' => e = .returned (.bool (firstF r).isSome) ∧ AsAt w2 tb (firstF r) w' ∧ Below tb w2 w') := HA
      clear HA hbx hb2 hk c1
      go_wp2_with fail
      refine wp_loop_rounds 3 ?_
      rw [rounds_succ]
      go_wp2_with fail
      refine HA'.out.mono ?_
      rintro e w3 ⟨rfl, hA, hbt⟩
      have HBT : Hid (Below tb w w3) := (HB2.out.mono (Nat.le_of_lt htl)).trans hbt
      clear hbt
      cases hfr : firstF r with
      | some p =>
        rw [hfr] at hA
        have HFR : Hid (firstF r = some p) := hfr
        have HAA : Hid (AsAt w tb (some p) w3) := AsAt.before HB2.out htl hA
        clear hA hfr
        simp only [Option.isSome_some]
        go_wp2
        go_ret
        rw [HFR.out]
        exact ⟨rfl, HAA.out, HBT.out⟩
      | none =>
        rw [hfr] at hA
        have HFR : Hid (firstF r = none) := hfr
        have hs3 := hA.1.1
        have hcb : ∀ j i, j < w2.heap.size → j ≠ tb → w3.cell? ⟨j, i, none⟩ = w2.cell? ⟨j, i, none⟩ := fun j i hj hn => World.cell?_of_block (hA.1.2 j hj hn)
        have d1 : w3.cell? ⟨k, 1, none⟩ = some (.iface 36 (.int .i64 y.k)) := (hcb k 1 hlk (by omega)).trans C1.out
        have a0 := (hcb w.heap.size 0 (by omega) (by omega)).trans b0
        have a1 := (hcb w.heap.size 1 (by omega) (by omega)).trans b1
        have a2 := (hcb w.heap.size 2 (by omega) (by omega)).trans b2
        have HAA : Hid (AsAt w tb none w3) := AsAt.before HB2.out htl hA
        have hlt3 : tb < w3.heap.size := by omega
        have HNU := as_number y.k tb vb w3
        unfold tv tt at HNU
        have HN' : Hid (Calls Tryd.prog 39 #[.iface 36 (.int .i64 y.k), .iface 50 (.pointer (some ⟨tb, 0, none⟩)), .agg #[.pointer (some ⟨5, 50, none⟩), .pointer (some ⟨vb, 0, none⟩), .int .u64 150], .iface 106 (.agg #[.pointer (some ⟨5, 44, none⟩)])] w3 fun e w' => e = .returned (.bool false) ∧ Below w3.heap.size w3 w') := HNU
        clear hA hfr hcb HNU b0 b1 b2
        simp only [Option.isSome_none]
        go_wp2_with fail
        rw [rounds_succ]
        go_wp2_with fail
        refine HN'.out.mono ?_
        rintro e w4 ⟨rfl, hb4⟩
        have HAB : Hid (AsAt w tb none w4) := AsAt.behind hb4 hlt3 HAA.out
        have HBU : Hid (Below tb w w4) := HBT.out.trans (hb4.mono (Nat.le_of_lt hlt3))
        clear hb4
        go_wp2_with fail
        rw [rounds_succ]
        go_wp2
        go_ret
        rw [HFR.out]
        exact ⟨rfl, HAB.out, HBU.out⟩
    · have hF : firstF (y :: r) = some (y.op, y.pos) := if_neg (by rw [hj]; decide)
      rw [hF]
      exact as_fault g tb vb y.op y.pos v' w hg hv ht

/-- errors.As of layers, into a variable of the caller's. -/
theorem As_layers (m : Int) (tb : Nat) (l : List Layer) (v : Value) (w : World) (hE : ErrAt w (some (some m)) l v) (ht : w.heap[tb]? = some (.cells #[.pointer none] 44 (0, 0))) (hg : ErrT w) :
    Calls Tryd.prog 18 #[v, .iface 50 (.pointer (some ⟨tb, 0, none⟩))] w fun e w' => e = .returned (.bool (firstF l).isSome) ∧ AsAt w tb (firstF l) w' ∧ Below tb w w' := by
  have e1 := @run_callFunc_extern Tryd.prog 36 _ (fun args => ReflectliteValue.unpack (args.getD 0 (.tuple #[]))) Tryd.func36 (by kernel_rfl) (by kernel_rfl) (by kernel_rfl) (by kernel_rfl)
  have e2 := @run_callFunc_extern Tryd.prog 37 _ (ReflectliteValue.methodAny (ReflectliteValue.valueError "reflectlite.Value.Type" 0) (fun t _ _ _ => ReflectliteType.toType t)) Tryd.func37 (by kernel_rfl) (by kernel_rfl) (by kernel_rfl) (by kernel_rfl)
  have e3 := @run_callFunc_extern Tryd.prog 38 _ (ReflectliteValue.method (ReflectliteValue.valueError "reflectlite.Value.IsNil" 0) ReflectliteValue.isNil) Tryd.func38 (by kernel_rfl) (by kernel_rfl) (by kernel_rfl) (by kernel_rfl)
  have e4 := @run_callFunc_extern Tryd.prog 80 _ (ReflectliteType.abiMethod fun t => do pure (.int .u8 (← Rtype.kind t))) Tryd.func80 (by kernel_rfl) (by kernel_rfl) (by kernel_rfl) (by kernel_rfl)
  have e5 := @run_callFunc_extern Tryd.prog 91 _ (ReflectliteType.method ReflectliteType.elem) Tryd.func91 (by kernel_rfl) (by kernel_rfl) (by kernel_rfl) (by kernel_rfl)
  have e6 := @run_callFunc_extern Tryd.prog 92 _ (ReflectliteType.relation "Implements" ReflectliteType.implements_) Tryd.func92 (by kernel_rfl) (by kernel_rfl) (by kernel_rfl) (by kernel_rfl)
  have f1 := vOfPP
  have f2 := tyPP
  have f3 := mKind
  have f4 := mElem
  have f5 := mImpl
  have f7 := kindPP
  have f8 := kindF
  have f9 := elemPP
  have f10 := implF
  have hlt := hg.lt
  have htl := lt_of_heap ht
  obtain ⟨tx, ux, hx⟩ := hE.iface
  subst hx
  have HE : Hid (ErrAt w (some (some m)) l (.iface tx ux)) := hE
  have HT : Hid (w.heap[tb]? = some (.cells #[.pointer none] 44 (0, 0))) := ht
  have g1 := nilPP ⟨w.heap.size, 0, none⟩ ⟨tb, 0, none⟩ ((w.alloc (.cells #[.pointer (some ⟨tb, 0, none⟩)] 50)).alloc (.cells #[.pointer (some ⟨5, 50, none⟩), .pointer (some ⟨w.heap.size, 0, none⟩), .int .u64 150] 81)) (by simp)
  have g2 : ((w.alloc (.cells #[.pointer (some ⟨tb, 0, none⟩)] 50)).alloc (.cells #[.pointer (some ⟨5, 50, none⟩), .pointer (some ⟨w.heap.size, 0, none⟩), .int .u64 150] 81)).cell? ⟨0, 0, none⟩ = some (.iface 106 (.agg #[.pointer (some ⟨5, 25, none⟩)])) := by
    rw [World.cell?_alloc_lt _ _ ⟨0, 0, none⟩ (by simp <;> omega), World.cell?_alloc_lt _ _ ⟨0, 0, none⟩ hlt]; exact hg
  have HB : Hid (Below w.heap.size w ((w.alloc (.cells #[.pointer (some ⟨tb, 0, none⟩)] 50)).alloc (.cells #[.pointer (some ⟨5, 50, none⟩), .pointer (some ⟨w.heap.size, 0, none⟩), .int .u64 150] 81))) := ((Below.refl _ _).alloc (Nat.le_refl _) _).alloc (by simp) _
  have HA := as_layers m tb w.heap.size l (.iface tx ux) _ (ErrAt.below HB.out HE.out) (by simp) (by omega) ((HB.out.block tb htl).trans HT.out)
  unfold tv tt at HA
  have HA' : Hid (Calls Tryd.prog 39 #[.iface tx ux, .iface 50 (.pointer (some ⟨tb, 0, none⟩)), .agg #[.pointer (some ⟨5, 50, none⟩), .pointer (some ⟨w.heap.size, 0, none⟩), .int .u64 150], .iface 106 (.agg #[.pointer (some ⟨5, 44, none⟩)])] ((w.alloc (.cells #[.pointer (some ⟨tb, 0, none⟩)] 50)).alloc (.cells #[.pointer (some ⟨5, 50, none⟩), .pointer (some ⟨w.heap.size, 0, none⟩), .int .u64 150] 81)) fun e w' => e = .returned (.bool (firstF l).isSome) ∧ AsAt _ tb (firstF l) w' ∧ Below tb _ w') := HA
  clear hg hE ht HA
  go_enter Tryd.func18, Tryd.ntmps18
  go_wp2_with fail
  refine HA'.out.mono ?_
  rintro e w3 ⟨rfl, hA, hbt⟩
  have HAA : Hid (AsAt w tb (firstF l) w3) := AsAt.before HB.out htl hA
  have HBT : Hid (Below tb w w3) := (HB.out.mono (Nat.le_of_lt htl)).trans hbt
  clear hA hbt
  go_wp2
  go_ret
  exact ⟨rfl, HAA.out, HBT.out⟩

end Go.Proofs.YtiaigboichmepaaDoor.Fa
