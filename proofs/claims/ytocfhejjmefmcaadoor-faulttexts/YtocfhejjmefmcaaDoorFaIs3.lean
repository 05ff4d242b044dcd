/-
  errors.is of any layers round a number, at a number. No condition.
-/
import Derived.Test.YtocfhejjmefmcaaDoorFaIs2
import Derived.Test.YtocfhejjmefmcaaDoorFaMadeM
namespace Go.Proofs.YtocfhejjmefmcaaDoor.Fa
open Go.ChangeShapes Go.WideShapes Go.ChangeAt Go.RowKit Go.Proofs.Fa

theorem muIs_le {w : World} {m k : Int} {l l' : List Layer} {v : Value} {wr : World} (h : IsAt w m k l l' v wr) : muIs w m k l v wr ≤ l'.length :=
  (least_spec _ ⟨_, l', h, rfl⟩).2 _ ⟨l', h, rfl⟩
theorem muIs_at {w : World} {m k : Int} {l : List Layer} {v : Value} {wr : World} (h : ∃ l', IsAt w m k l l' v wr) : ∃ l', IsAt w m k l l' v wr ∧ muIs w m k l v wr = l'.length := by
  obtain ⟨l', h⟩ := h
  exact (least_spec (fun n => ∃ l', IsAt w m k l l' v wr ∧ n = l'.length) ⟨_, l', h, rfl⟩).1

set_option maxRecDepth 100000
set_option maxHeartbeats 8000000
theorem is_layers (m k : Int) : ∀ (N : Nat) (l : List Layer) (v : Value) (w : World), l.length ≤ N → ErrAt w (some (some m)) l v →
    Calls Tryd.prog 35 #[v, .iface 36 (.int .i64 k), .bool true] w fun e w' => e = .returned (.bool (isN m k l)) ∧ Below w.heap.size w w'
  | N, l, v, w, hN, hE => by
    have IH : Hid (∀ (r : List Layer) (v : Value) (W : World), r.length < N → ErrAt W (some (some m)) r v → Calls Tryd.prog 35 #[v, .iface 36 (.int .i64 k), .bool true] W fun e w' => e = .returned (.bool (isN m k r)) ∧ Below W.heap.size W w') := by
      intro r v W hr hE
      match N, hr with
      | N + 1, hr => exact is_layers m k N r v W (by omega) hE
    have HE : Hid (ErrAt w (some (some m)) l v) := hE
    obtain ⟨t, u, hv⟩ := hE.iface
    subst hv
    clear hE
    have h0 := eq_Errno m k
    have f0 := eq_Fault_Errno
    have g0 := eq_Many_Errno
    have h1 := hasIs_Errno (.int .i64 m)
    have h2 := hasUn_Errno (.int .i64 m)
    have h3 := hasUs_Errno (.int .i64 m)
    have f1 := hasIs_Fault
    have f2 := hasUn_Fault
    have f3 := mIs
    have f4 := mUn
    have g1 := hasIs_Many
    have g2 := hasUn_Many
    have g3 := hasUs_Many
    have g4 := mUs
    go_enter Tryd.func35, Tryd.ntmps35
    go_wp2
    go_loopw [0] (fun e wr => ∃ l', IsAt w m k l l' e wr) (fun e wr => muIs w m k l e wr)
    case atStart => exact ⟨l, HE.out, Nat.le_refl _, rfl, Below.refl _ _⟩
    case round =>
      obtain ⟨l', ⟨hA, hlen, hq, hb⟩, hmu⟩ := muIs_at hrel
      have HMU : Hid (muIs w m k l _ wr = l'.length) := hmu
      have HB : Hid (Below w.heap.size w wr) := hb
      have HQ : Hid (isN m k l' = isN m k l) := hq
      clear hmu hb hq hrel
      match l', hA with
      | [], hA =>
        have hv' : _ = Value.iface 36 (.int .i64 m) := hA
        subst hv'
        have HQ' : Hid ((m == k) = isN m k l) := HQ.out
        clear hA
        cases hmk : (m == k) with
        | true =>
          rw [hmk] at HQ'
          simp only [hmk] at h0
          clear hmk
          go_wp2
          go_ret
          exact ⟨by rw [← HQ'.out]; rfl, HB.out⟩
        | false =>
          rw [hmk] at HQ'
          simp only [hmk] at h0
          clear hmk
          go_wp2
          go_ret
          exact ⟨by rw [← HQ'.out]; rfl, HB.out⟩
      | y :: r, hA =>
        rcases hA with ⟨hj, g, cap, v', rfl, c0, c1, hr⟩ | ⟨hj, g, v', rfl, hg, hr⟩
        · have hI : isN m k (y :: r) = (isN m k r || (y.k == k)) := by simp [isN, hj]
          obtain ⟨t', u', hv'⟩ := hr.iface
          subst hv'
          have C0 : Hid (wr.cell? ⟨g, 0, none⟩ = some (.iface t' u')) := (HB.out.cell (p := ⟨g, 0, none⟩) (lt_of_cell c0)).trans c0
          have C1 : Hid (wr.cell? ⟨g, 1, none⟩ = some (.iface 36 (.int .i64 y.k))) := (HB.out.cell (p := ⟨g, 1, none⟩) (lt_of_cell c1)).trans c1
          have HR : Hid (ErrAt wr (some (some m)) r (.iface t' u')) := ErrAt.below HB.out hr
          have HQ' : Hid ((isN m k r || (y.k == k)) = isN m k l) := by show _ = _; rw [← hI]; exact HQ.out
          have hrl : r.length < N := by simp at hlen; omega
          clear c0 c1 hr hI
          go_wp2_with fail
          refine (many_unwrap g cap (.iface t' u') (.iface 36 (.int .i64 y.k)) _ C0.out C1.out).mono ?_
          rintro e w2 ⟨q, cap', rfl, hq, d0, d1, hb2⟩
          have HB2 : Hid (Below w.heap.size w w2) := HB.out.trans (hb2.mono HB.out.size)
          have HR2 : Hid (ErrAt w2 (some (some m)) r (.iface t' u')) := ErrAt.below hb2 HR.out
          have D1 : Hid (w2.cell? ⟨q, 1, none⟩ = some (.iface 36 (.int .i64 y.k))) := d1
          clear hb2 d1
          go_wp2_with fail
          refine wp_loop_rounds 3 ?_
          rw [rounds_succ]
          go_wp2_with fail
          refine (IH.out r _ w2 hrl HR2.out).mono ?_
          rintro e w3 ⟨rfl, hb3⟩
          have d1 : w3.cell? ⟨q, 1, none⟩ = some (.iface 36 (.int .i64 y.k)) := (hb3.cell (p := ⟨q, 1, none⟩) (lt_of_cell D1.out)).trans D1.out
          have HB3 : Hid (Below w.heap.size w w3) := HB2.out.trans (hb3.mono HB2.out.size)
          clear hb3 d0
          cases hir : isN m k r with
          | true =>
            rw [hir] at HQ'
            clear hir
            go_wp2
            go_ret
            exact ⟨by rw [← HQ'.out]; rfl, HB3.out⟩
          | false =>
            rw [hir] at HQ'
            clear hir
            go_wp2_with fail
            rw [rounds_succ]
            go_wp2_with fail
            refine (is_base y.k k w3).mono ?_
            rintro e w4 ⟨rfl, rfl⟩
            cases hyk : (y.k == k) with
            | true =>
              rw [hyk] at HQ'
              clear hyk
              go_wp2
              go_ret
              exact ⟨by rw [← HQ'.out]; rfl, HB3.out⟩
            | false =>
              rw [hyk] at HQ'
              clear hyk
              go_wp2_with fail
              rw [rounds_succ]
              go_wp2
              go_ret
              exact ⟨by rw [← HQ'.out]; rfl, HB3.out⟩
        · have hI : isN m k (y :: r) = isN m k r := by simp [isN, hj]
          obtain ⟨t', u', hv'⟩ := hr.iface
          subst hv'
          have HG : Hid (wr.heap[g]? = some (.cells #[.string y.op, .int .i64 y.pos, .iface t' u'] 46 (0, 0))) := (HB.out.block _ (lt_of_heap hg)).trans hg
          have HS : Hid (IsAt w m k l r (.iface t' u') wr) := ⟨hr, by simp at hlen; omega, by rw [← hI]; exact HQ.out, HB.out⟩
          clear hg hr hI
          go_wp2_with fail
          refine (is_errno g k _).mono ?_
          rintro e w1 ⟨rfl, rfl⟩
          go_wp2_with fail
          refine (unwrap_some g y.op y.pos _ _ HG.out).mono ?_
          rintro e w2 ⟨rfl, rfl⟩
          go_wp2
          go_roundw
          case rel => exact ⟨r, HS.out⟩
          case measure => rw [HMU.out]; have := muIs_le HS.out; simp only [List.length_cons]; omega

end Go.Proofs.YtocfhejjmefmcaaDoor.Fa
