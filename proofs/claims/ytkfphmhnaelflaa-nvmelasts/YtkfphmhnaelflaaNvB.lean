/-
  The commands of a row, the last one first. No condition.
-/
import Derived.Test.YtkfphmhnaelflaaNvW
import Derived.Test.YtkfphmhnaelflaaNvG
import Derived.Test.YtkfphmhnaelflaaNvRange
import Derived.Shelf.Abstract
import Derived.Shelf.RegionOpen
import Derived.OwnWalkIn
import Derived.TacticsInMore
import Derived.LoopNIn
import Derived.LoopIn
namespace Go.Proofs.Ytkfphmhnaelflaa.Nv
open Go.ChangeShapes Go.WideShapes Go.ChangeAt Go.RowKit Go.Proofs.Fa Go.Shelf
attribute [local go_sem] Oper.semAt_some

/-- What no round turns: all that isn't cells, and the iterator's own cell. -/
def M (o : Obj) : Prop := o.isCells = false ∨ ∃ v, o = .cells #[v] 44 (0, 0)
theorem M_other : ∀ o : Obj, o.isCells = false → M o := fun _ h => .inl h
def cmdAt (l : List Cmd) (i : Nat) : Cmd := (l[i]?).getD noCmd
def encB (l : List Cmd) (i : Nat) : Array Value := #[.int .i64 i, (cmdAt l i).agg]
def downL (n : Nat) : List Nat := (List.range n).reverse
theorem downL_succ (n : Nat) : downL (n + 1) = n :: downL n := by simp [downL, List.range_succ]
theorem rev_down (l : List Cmd) : (downL l.length).map (cmdAt l) = l.reverse := by
  unfold downL
  rw [List.map_reverse]
  congr 1
  apply List.ext_getElem
  · simp
  · intro i h1 h2
    simp only [List.getElem_map, List.getElem_range, cmdAt]
    rw [List.getElem?_eq_getElem h2]
    rfl
theorem find_hit {las : List ByteArray} {l : List Cmd} {s : Int} {pre : List Nat} {x : Nat} (hp : pre ++ [x] <+: downL l.length) (hn : ∀ y ∈ pre, (cmdAt l y).sector ≠ s) (hx : (cmdAt l x).sector = s) : findL las l s = (cmdAt l x).data := by
  obtain ⟨r, hr⟩ := hp
  have h1 : l.reverse = pre.map (cmdAt l) ++ cmdAt l x :: r.map (cmdAt l) := by
    rw [← rev_down, ← hr]; simp
  unfold findL
  rw [h1, List.find?_append, List.find?_eq_none.2 (by
    intro c hc
    obtain ⟨y, hy, rfl⟩ := List.mem_map.1 hc
    simpa using hn y hy)]
  simp [hx]
theorem find_miss {las : List ByteArray} {l : List Cmd} {s : Int} (hn : ∀ y ∈ downL l.length, (cmdAt l y).sector ≠ s) : findL las l s = (las[s.toNat]?).getD ⟨#[]⟩ := by
  refine find_none (fun c hc => ?_)
  have := List.mem_reverse.2 hc
  rw [← rev_down] at this
  obtain ⟨y, hy, rfl⟩ := List.mem_map.1 this
  exact hn y hy

set_option maxRecDepth 100000
set_option maxHeartbeats 2000000

theorem back_any (a : Option Addr) (n cap : Nat) (w : World) : Calls Try.prog 38 #[.slice a n cap] w fun r w' => r = .returned (.func (.func 46) #[] #[.pointer (some ⟨w.heap.size, 0, none⟩)]) ∧ w' = w.alloc (.cells #[.slice a n cap] 44) := by
  go_enter Try.func38, Try.ntmps38
  go_wp2
  go_ret
  exact ⟨rfl, rfl⟩

/-- Where the iterator stands. -/
structure StandB (w0 : World) (v : Value) (sB n : Nat) (J : List Nat → World → Prop) (pre : List Nat) (k : Nat) (W : World) : Prop where
  down : pre ++ downL k = downL n
  j : J pre W
  below : Below w0.heap.size w0 W
  cell : W.heap[sB]? = some (.cells #[v] 44 (0, 0))

theorem back1_seq (N : Nat) (w0 wm : World) (a : Option Addr) (cap : Nat) (l : List Cmd) (sB : Nat) (hl : l.length ≤ 1000000) (hr : w0.ownsRow 0 37 4 (.slice a l.length cap) l.length (ccells l)) (hwm : Below w0.heap.size w0 wm) (hs : wm.heap[sB]? = some (.cells #[.slice a l.length cap] 44 (0, 0))) :
    SeqM Fence.wide N Try.prog 46 #[.pointer (some ⟨sB, 0, none⟩)] (encB l) M w0.heap.size (fun xs => xs = downL l.length) (fun xs => xs <+: downL l.length) wm := by
  intro lp J Jx W hW hJ hJx hY hJ0
  have hcs : W.cell? ⟨sB, 0, none⟩ = some (.slice a l.length cap) := cell_of_heap ((hW.block _ (lt_of_heap hs)).trans hs) 0 _ rfl
  have HR : Hid (w0.ownsRow 0 37 4 (.slice a l.length cap) l.length (ccells l)) := hr
  have HST : Hid (StandB w0 (.slice a l.length cap) sB l.length J [] l.length W) := ⟨rfl, hJ0, hwm.trans (hW.mono hwm.size), (hW.block _ (lt_of_heap hs)).trans hs⟩
  clear hr hwm hs hW hJ hJx hJ0
  refine callsIn_of_wp Try.func46 rfl trivial ?_ rfl
  simp only [Try.ntmps46, List.size_toArray, List.length_cons, List.length_nil, Nat.reduceAdd, Nat.reduceSub, Array.replicate_succ, Array.replicate_zero, List.push_toArray, List.append_toArray, List.nil_append, List.cons_append]
  gi_wp2
  gi_loopw [3] (fun i wr => ∃ (k : Nat) (pre : List Nat), i = .int .i64 ((k : Int) - 1) ∧ k ≤ l.length ∧ StandB w0 (.slice a l.length cap) sB l.length J pre k wr) (fun i _ => (intOf i + 1).toNat)
  case atStart => exact ⟨l.length, [], rfl, Nat.le_refl _, HST.out⟩
  case round =>
    clear HST hcs
    obtain ⟨k, pre, rfl, hk, hst⟩ := hrel
    have Hst : Hid (StandB w0 (.slice a l.length cap) sB l.length J pre k wr) := hst
    have cs := cell_of_heap hst.cell 0 _ rfl
    clear hst
    cases k with
    | zero =>
      have HD : Hid (pre = downL l.length) := by
        show _ = _
        have := Hst.out.down
        simpa [downL] using this
      gi_wp2
      go_end0
      exact ⟨⟨_, rfl⟩, .inl ⟨pre, HD.out, Hst.out.j⟩⟩
    | succ k =>
      rw [show (((k + 1 : Nat) : Int) - 1) = (k : Int) by omega]
      have hRk := row_below HR.out Hst.out.below
      obtain ⟨g, cap', he⟩ := row_some hRk (by omega)
      cases he
      have hlt : k < l.length := by omega
      obtain ⟨e0, e1, e2, e3⟩ := row_cmd hRk k hlt
      clear hRk
      have HDN : Hid (pre ++ [k] ++ downL k = downL l.length) := by
        show _ = _
        rw [← Hst.out.down, downL_succ]; simp
      have hY' := hY pre k wr Hst.out.j ⟨_, HDN.out⟩
      have hcm : cmdAt l k = l[k] := by unfold cmdAt; rw [List.getElem?_eq_getElem hlt]; rfl
      obtain ⟨fn, tmps, assign, body, hy, hR⟩ := hY'
      simp only [encB, hcm] at hy
      clear hY hcm
      obtain ⟨cc, hck⟩ : ∃ cc, l[k] = cc := ⟨_, rfl⟩
      rw [hck] at e0 e1 e2 e3 hy
      clear hck
      obtain ⟨xk, xs, xd, xt⟩ := cc
      dsimp only [Cmd.agg] at hy e0 e1 e2 e3
      gi_wp2
      refine ⟨fun h => (by cases h), ?_⟩
      refine hR.mono ?_
      rintro e W3 (⟨rfl, hJ3, hk3, hb3⟩ | ⟨rfl, hJx3⟩)
      · have HST3 : Hid (StandB w0 _ sB l.length J (pre ++ [k]) k W3) := ⟨HDN.out, hJ3, Hst.out.below.trans (hb3.mono (Nat.le_refl _)), hk3.same _ _ Hst.out.cell ⟨.inr ⟨_, rfl⟩, rfl⟩⟩
        clear hR hJ3 hk3 hb3
        gi_wp2
        go_roundw
        case rel => exact ⟨k, pre ++ [k], by go_num, by omega, HST3.out⟩
        case measure => simp [intOf]
      · clear hR
        gi_wp2
        refine bodyPost_ret (results_none rfl _ _ _) rfl ?_
        exact ⟨⟨_, rfl⟩, .inr ⟨_, ⟨_, HDN.out⟩, hJx3⟩⟩

end Go.Proofs.Ytkfphmhnaelflaa.Nv
