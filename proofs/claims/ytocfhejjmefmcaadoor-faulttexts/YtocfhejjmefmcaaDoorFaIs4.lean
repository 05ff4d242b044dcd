/-
  errors.is of any layers round a number, at a kind of faults. No condition.
-/
import Derived.Test.YtocfhejjmefmcaaDoorFaIs3
namespace Go.Proofs.YtocfhejjmefmcaaDoor.Fa
open Go.ChangeShapes Go.WideShapes Go.ChangeAt Go.RowKit Go.Proofs.Fa

/-- Is one of the faults of a kind? -/
def isK (op : ByteArray) (n : Int) : List Layer → Bool
  | [] => false
  | y :: r => if y.join = true then isK op n r else kindOf op n y.op y.pos || isK op n r
/-- The kind lies in block gt. -/
def KindAt (w : World) (gt : Nat) (op : ByteArray) (n : Int) : Prop := w.heap[gt]? = some (.cells #[.string op, .int .i64 n, .nilIface] 46 (0, 0))
theorem KindAt.below {w w' : World} {gt : Nat} {op : ByteArray} {n : Int} (h : KindAt w gt op n) (hb : Below w.heap.size w w') : KindAt w' gt op n := (hb.block gt (lt_of_heap h)).trans h

/-- Where errors.is stands. -/
def IsKAt (w : World) (m : Int) (op : ByteArray) (n : Int) (l l' : List Layer) (v : Value) (wr : World) : Prop := ErrAt w (some (some m)) l' v ∧ l'.length ≤ l.length ∧ isK op n l' = isK op n l ∧ Below w.heap.size w wr
noncomputable def muK (w : World) (m : Int) (op : ByteArray) (n : Int) (l : List Layer) (v : Value) (wr : World) : Nat := least fun c => ∃ l', IsKAt w m op n l l' v wr ∧ c = l'.length
theorem muK_le {w : World} {m : Int} {op : ByteArray} {n : Int} {l l' : List Layer} {v : Value} {wr : World} (h : IsKAt w m op n l l' v wr) : muK w m op n l v wr ≤ l'.length :=
  (least_spec _ ⟨_, l', h, rfl⟩).2 _ ⟨l', h, rfl⟩
theorem muK_at {w : World} {m : Int} {op : ByteArray} {n : Int} {l : List Layer} {v : Value} {wr : World} (h : ∃ l', IsKAt w m op n l l' v wr) : ∃ l', IsKAt w m op n l l' v wr ∧ muK w m op n l v wr = l'.length := by
  obtain ⟨l', h⟩ := h
  exact (least_spec (fun c => ∃ l', IsKAt w m op n l l' v wr ∧ c = l'.length) ⟨_, l', h, rfl⟩).1

set_option maxRecDepth 100000
set_option maxHeartbeats 8000000
theorem isK_base (m : Int) (p : Value) (w : World) :
    Calls Tryd.prog 35 #[.iface 36 (.int .i64 m), .iface 44 p, .bool true] w fun e w' => e = .returned (.bool false) ∧ w' = w := by
  have h0 := eq_Errno_Fault (.int .i64 m) p
  have h1 := hasIs_Errno (.int .i64 m)
  have h2 := hasUn_Errno (.int .i64 m)
  have h3 := hasUs_Errno (.int .i64 m)
  go_enter Tryd.func35, Tryd.ntmps35
  go_wp2
  refine wp_loop_rounds 1 ?_
  rw [rounds_succ]
  go_wp2
  go_ret
  exact ⟨rfl, rfl⟩

theorem isK_layers (m : Int) (gt : Nat) (op : ByteArray) (n : Int) : ∀ (N : Nat) (l : List Layer) (v : Value) (w : World), l.length ≤ N → ErrAt w (some (some m)) l v → KindAt w gt op n →
    Calls Tryd.prog 35 #[v, .iface 44 (.pointer (some ⟨gt, 0, none⟩)), .bool true] w fun e w' => e = .returned (.bool (isK op n l)) ∧ Below w.heap.size w w'
  | N, l, v, w, hN, hE, hT => by
    have IH : Hid (∀ (r : List Layer) (v : Value) (W : World), r.length < N → ErrAt W (some (some m)) r v → KindAt W gt op n → Calls Tryd.prog 35 #[v, .iface 44 (.pointer (some ⟨gt, 0, none⟩)), .bool true] W fun e w' => e = .returned (.bool (isK op n r)) ∧ Below W.heap.size W w') := by
      intro r v W hr hE hT
      match N, hr with
      | N + 1, hr => exact isK_layers m gt op n N r v W (by omega) hE hT
    have HE : Hid (ErrAt w (some (some m)) l v) := hE
    have HT : Hid (KindAt w gt op n) := hT
    obtain ⟨t, u, hv⟩ := hE.iface
    subst hv
    clear hE hT
    have h0 := eq_Errno_Fault (.int .i64 m) (.pointer (some ⟨gt, 0, none⟩))
    have g0 := eq_Many_Fault
    have h1 := hasIs_Errno (.int .i64 m)
    have h2 := hasUn_Errno (.int .i64 m)
    have h3 := hasUs_Errno (.int .i64 m)
    have f1 := hasIs_Fault
    have f2 := hasUn_Fault
    have f3 := mIs
    have f4 := mUn
    have g1 := hasIs_Many
    have g2 := hasUn_Many
    have g3 := hasUs_Many
    have g4 := mUs
    go_enter Tryd.func35, Tryd.ntmps35
    go_wp2
    go_loopw [0] (fun e wr => ∃ l', IsKAt w m op n l l' e wr) (fun e wr => muK w m op n l e wr)
    case atStart => exact ⟨l, HE.out, Nat.le_refl _, rfl, Below.refl _ _⟩
    case round =>
      obtain ⟨l', ⟨hA, hlen, hq, hb⟩, hmu⟩ := muK_at hrel
      have HMU : Hid (muK w m op n l _ wr = l'.length) := hmu
      have HB : Hid (Below w.heap.size w wr) := hb
      have HQ : Hid (isK op n l' = isK op n l) := hq
      have HTr : Hid (KindAt wr gt op n) := HT.out.below hb
      clear hmu hb hq hrel
      match l', hA with
      | [], hA =>
        have hv' : _ = Value.iface 36 (.int .i64 m) := hA
        subst hv'
        have HQ' : Hid (false = isK op n l) := HQ.out
        clear hA
        go_wp2
        go_ret
        exact ⟨by rw [← HQ'.out]; rfl, HB.out⟩
      | y :: r, hA =>
        rcases hA with ⟨hj, g, cap, v', rfl, c0, c1, hr⟩ | ⟨hj, g, v', rfl, hg, hr⟩
        · have hI : isK op n (y :: r) = isK op n r := by simp [isK, hj]
          obtain ⟨t', u', hv'⟩ := hr.iface
          subst hv'
          have C0 : Hid (wr.cell? ⟨g, 0, none⟩ = some (.iface t' u')) := (HB.out.cell (p := ⟨g, 0, none⟩) (lt_of_cell c0)).trans c0
          have C1 : Hid (wr.cell? ⟨g, 1, none⟩ = some (.iface 36 (.int .i64 y.k))) := (HB.out.cell (p := ⟨g, 1, none⟩) (lt_of_cell c1)).trans c1
          have HR : Hid (ErrAt wr (some (some m)) r (.iface t' u')) := ErrAt.below HB.out hr
          have HQ' : Hid (isK op n r = isK op n l) := by show _ = _; rw [← hI]; exact HQ.out
          have hrl : r.length < N := by simp at hlen; omega
          clear c0 c1 hr hI
          go_wp2_with fail
          refine (many_unwrap g cap (.iface t' u') (.iface 36 (.int .i64 y.k)) _ C0.out C1.out).mono ?_
          rintro e w2 ⟨q, cap', rfl, hq, d0, d1, hb2⟩
          have HB2 : Hid (Below w.heap.size w w2) := HB.out.trans (hb2.mono HB.out.size)
          have HR2 : Hid (ErrAt w2 (some (some m)) r (.iface t' u')) := ErrAt.below hb2 HR.out
          have HT2 : Hid (KindAt w2 gt op n) := HTr.out.below hb2
          have D1 : Hid (w2.cell? ⟨q, 1, none⟩ = some (.iface 36 (.int .i64 y.k))) := d1
          clear hb2 d1
          go_wp2_with fail
          refine wp_loop_rounds 3 ?_
          rw [rounds_succ]
          go_wp2_with fail
          refine (IH.out r _ w2 hrl HR2.out HT2.out).mono ?_
          rintro e w3 ⟨rfl, hb3⟩
          have d1 : w3.cell? ⟨q, 1, none⟩ = some (.iface 36 (.int .i64 y.k)) := (hb3.cell (p := ⟨q, 1, none⟩) (lt_of_cell D1.out)).trans D1.out
          have HB3 : Hid (Below w.heap.size w w3) := HB2.out.trans (hb3.mono HB2.out.size)
          clear hb3 d0
          cases hir : isK op n r with
          | true =>
            rw [hir] at HQ'
            clear hir
            go_wp2
            go_ret
            exact ⟨by rw [← HQ'.out]; rfl, HB3.out⟩
          | false =>
            rw [hir] at HQ'
            clear hir
            go_wp2_with fail
            rw [rounds_succ]
            go_wp2_with fail
            refine (isK_base y.k _ w3).mono ?_
            rintro e w4 ⟨rfl, rfl⟩
            go_wp2_with fail
            rw [rounds_succ]
            go_wp2
            go_ret
            exact ⟨by rw [← HQ'.out]; rfl, HB3.out⟩
        · have hI : isK op n (y :: r) = (kindOf op n y.op y.pos || isK op n r) := by simp [isK, hj]
          obtain ⟨t', u', hv'⟩ := hr.iface
          subst hv'
          have hgw : wr.heap[g]? = some (.cells #[.string y.op, .int .i64 y.pos, .iface t' u'] 46 (0, 0)) := (HB.out.block _ (lt_of_heap hg)).trans hg
          have HG : Hid (wr.heap[g]? = some (.cells #[.string y.op, .int .i64 y.pos, .iface t' u'] 46 (0, 0))) := hgw
          have hne : g ≠ gt := by
            rintro rfl
            have := HTr.out
            unfold KindAt at this
            rw [hgw] at this
            simp at this
          have f0 := eq_Fault g gt _ _ wr hne hgw HTr.out
          have HRR : Hid (ErrAt w (some (some m)) r (.iface t' u')) := hr
          have hlen' : r.length ≤ l.length := by simp at hlen; omega
          have HQ' : Hid ((kindOf op n y.op y.pos || isK op n r) = isK op n l) := by show _ = _; rw [← hI]; exact HQ.out
          clear hg hr hI hgw
          go_wp2_with fail
          refine (is_kind g gt op y.op n y.pos _ _ HG.out HTr.out).mono ?_
          rintro e w1 ⟨rfl, hw1⟩
          have HB1 : Hid (Below w.heap.size w w1) := by rw [hw1]; exact HB.out.drew
          have HG1 : Hid (w1.heap[g]? = some (.cells #[.string y.op, .int .i64 y.pos, .iface t' u'] 46 (0, 0))) := by rw [hw1]; exact HG.out
          clear hw1
          cases hkk : kindOf op n y.op y.pos with
          | true =>
            rw [hkk] at HQ'
            clear hkk
            go_wp2
            go_ret
            exact ⟨by rw [← HQ'.out]; rfl, HB1.out⟩
          | false =>
            rw [hkk] at HQ'
            have HS : Hid (IsKAt w m op n l r (.iface t' u') w1) := ⟨HRR.out, hlen', HQ'.out, HB1.out⟩
            clear hkk
            go_wp2_with fail
            refine (unwrap_some g y.op y.pos _ _ HG1.out).mono ?_
            rintro e w2 ⟨rfl, rfl⟩
            go_wp2
            go_roundw
            case rel => exact ⟨r, HS.out⟩
            case measure => rw [HMU.out]; have := muK_le HS.out; simp only [List.length_cons]; omega

end Go.Proofs.YtocfhejjmefmcaaDoor.Fa
