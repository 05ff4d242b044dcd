/-
  The free runs of a set, one behind the other. No condition.
-/
import Derived.Test.YtkflhakgfpiiaaaDoorBtN
import Derived.Test.YtkflhakgfpiiaaaDoorFaRange
import Derived.Shelf.Abstract
import Derived.Shelf.RegionOpen
import Derived.OwnWalkIn
import Derived.TacticsInMore
import Derived.LoopNIn
import Derived.LoopIn
import Derived.Deep.RegionHeld3
namespace Go.Proofs.YtkflhakgfpiiaaaDoor.Bt
open Go.ChangeShapes Go.WideShapes Go.ChangeAt Go.RowKit Go.Proofs.Fa Go.Shelf
attribute [local go_sem] Oper.semAt_some

/-- What no round turns: all that isn't cells, and the iterator's own cell. -/
def M (o : Obj) : Prop := o.isCells = false ∨ ∃ v, o = .cells #[v] 24 (0, 0)
theorem M_other : ∀ o : Obj, o.isCells = false → M o := fun _ h => .inl h
def encs (x : Nat × Nat) : Array Value := #[.int .i64 x.1, .int .i64 x.2]

set_option maxRecDepth 100000
set_option maxHeartbeats 2000000

theorem runs_any (v : Value) (f : Int) (w : World) (hv : v = .pointer none ∨ ∃ b, v = .pointer (some ⟨b, 0, none⟩)) : Calls Tryd.prog 30 #[v, .int .i64 f] w fun r w' => r = .returned (.func (.func 44) #[] #[.pointer (some ⟨w.heap.size + 1, 0, none⟩), .pointer (some ⟨w.heap.size, 0, none⟩)]) ∧ w' = (w.alloc (.cells #[v] 24)).alloc (.cells #[.int .i64 f] 3) := by
  rcases hv with rfl | ⟨b, rfl⟩
  all_goals
    go_enter Tryd.func30, Tryd.ntmps30
    go_wp2
    go_ret
    exact ⟨rfl, rfl⟩

/-- Where the iterator stands. -/
structure Stand (w0 : World) (v : Value) (sB n : Nat) (B : Nat → Nat) (f : Nat) (J : List (Nat × Nat) → World → Prop) (pre : List (Nat × Nat)) (k : Nat) (W : World) : Prop where
  runs : pre ++ runsL B n n k = runsL B n n f
  j : J pre W
  below : Below w0.heap.size w0 W
  cell : W.heap[sB]? = some (.cells #[v] 24 (0, 0))

theorem runs1_seq (N : Nat) (w0 wm : World) (v : Value) (sB fB n : Nat) (B : Nat → Nat) (f : Int) (hf : f ≤ 9223372036854775807) (hS : SetV w0 v n B) (hwm : Below w0.heap.size w0 wm) (hs : wm.heap[sB]? = some (.cells #[v] 24 (0, 0))) (hfB : wm.cell? ⟨fB, 0, none⟩ = some (.int .i64 f)) :
    SeqM Fence.wide N Tryd.prog 44 #[.pointer (some ⟨fB, 0, none⟩), .pointer (some ⟨sB, 0, none⟩)] encs M w0.heap.size (fun xs => xs = runsL B n n (max f 0).toNat) (fun xs => xs <+: runsL B n n (max f 0).toNat) wm := by
  intro lp J Jx W hW hJ hJx hY hJ0
  have hmx := hS.max
  have hvv : v = .pointer none ∨ ∃ b, v = .pointer (some ⟨b, 0, none⟩) := by
    rcases hS with ⟨rfl, _⟩ | ⟨b, rfl, _⟩
    · exact .inl rfl
    · exact .inr ⟨b, rfl⟩
  have hcf : W.cell? ⟨fB, 0, none⟩ = some (.int .i64 f) := (hW.cell (p := ⟨fB, 0, none⟩) (lt_of_cell hfB)).trans hfB
  have HS : Hid (SetV w0 v n B) := hS
  have HST : Hid (Stand w0 v sB n B (max f 0).toNat J [] (max f 0).toNat W) := ⟨rfl, hJ0, hwm.trans (hW.mono hwm.size), (hW.block _ (lt_of_heap hs)).trans hs⟩
  have HJB : Hid (∀ pre (A A' : World), J pre A → Below A.heap.size A A' → J pre A') := fun pre A A' h hb => hJ pre A A' none h ⟨hb.os, hb.tape, hb.output, hb.size, fun k hk _ => hb.block k hk⟩ (fun r e => by cases e)
  clear hS hwm hs hfB hW hJ hJx hJ0
  obtain ⟨f0, hf0⟩ : ∃ f0 : Nat, max f 0 = (f0 : Int) := ⟨(max f 0).toNat, by omega⟩
  have hmax1 : (if f < 0 then 0 else f) = (f0 : Int) := by split <;> omega
  have hmax2 : (if 0 < f then f else 0) = (f0 : Int) := by split <;> omega
  rw [hf0, Int.toNat_natCast] at HST ⊢
  have hf0' : (f0 : Int) ≤ 9223372036854775807 := by omega
  refine callsIn_of_wp Tryd.func44 rfl trivial ?_ rfl
  simp only [Tryd.ntmps44, List.size_toArray, List.length_cons, List.length_nil, Nat.reduceAdd, Nat.reduceSub, Array.replicate_succ, Array.replicate_zero, List.push_toArray, List.append_toArray, List.nil_append, List.cons_append]
  rw [show (max f 0).toNat = f0 by omega] at hY
  gi_wp2
  gi_loopw [4] (fun i wr => ∃ (k : Nat) (pre : List (Nat × Nat)), i = .int .i64 k ∧ (k : Int) ≤ 9223372036854775807 ∧ Stand w0 v sB n B f0 J pre k wr) (fun i _ => n - (intOf i).toNat)
  case atStart => exact ⟨f0, [], rfl, hf0', HST.out⟩
  case round =>
    clear HST hcf hmax1 hmax2 hf0
    obtain ⟨k, pre, rfl, hk63, hst⟩ := hrel
    have Hst : Hid (Stand w0 v sB n B f0 J pre k wr) := hst
    have HSr : Hid (SetV wr v n B) := HS.out.below hst.below (Nat.le_refl _)
    have cs := cell_of_heap hst.cell 0 v rfl
    clear hst
    have hend := end_any v n B wr HSr.out
    by_cases hlt : k < n
    · have hfr := free_any v n B k wr HSr.out (by omega)
      have HSTEP := runsL_step B n n k hlt (by omega)
      have hrl := runF_le B (n - k) k
      generalize hrr : runF B (n - k) k = r at *
      clear hrr
      have hkn : (k : Int) < (n : Int) := by omega
      rcases hvv with rfl | ⟨b, rfl⟩
      all_goals
        gi_wp2_with fail
        refine ⟨trivial, fun h => (by cases h), ?_⟩
        refine (callsIn_wide.2 hend).mono ?_
        rintro e w1 ⟨rfl, rfl⟩
        clear hend
        gi_wp2_with fail
        refine ⟨trivial, fun h => (by cases h), ?_⟩
        refine (callsIn_wide.2 hfr).mono ?_
        rintro e w2 ⟨rfl, hb2⟩
        clear hfr cs
        have hj2 : J pre w2 := HJB.out pre _ _ Hst.out.j hb2
        have HB2 : Hid (Below w0.heap.size w0 w2) := Hst.out.below.trans (hb2.mono Hst.out.below.size)
        have HC2 : Hid (w2.heap[sB]? = some (.cells #[_] 24 (0, 0))) := (hb2.block _ (lt_of_heap Hst.out.cell)).trans Hst.out.cell
        have HJ2 : Hid (J pre w2) := hj2
        have HRUN := Hst.out.runs
        clear hb2 hj2
        by_cases hr0 : 0 < r
        · rw [HSTEP, if_pos hr0] at HRUN
          obtain ⟨fn, tmps, assign, body, hy, hR⟩ := hY pre (k, r) w2 HJ2.out ⟨runsL B n n (k + r + 1), by rw [← HRUN, List.append_assoc]⟩
          have HPRE : Hid (pre ++ [(k, r)] ++ runsL B n n (k + r + 1) = runsL B n n f0) := by show _ = _; rw [← HRUN, List.append_assoc]
          dsimp only [encs] at hy
          clear hY HRUN HSTEP
          gi_wp2
          refine ⟨fun h => (by cases h), ?_⟩
          refine hR.mono ?_
          rintro e W3 (⟨rfl, hJ3, hk3, hb3⟩ | ⟨rfl, hJx3⟩)
          · have HST3 : Hid (Stand w0 _ sB n B f0 J (pre ++ [(k, r)]) (k + r + 1) W3) := ⟨HPRE.out, hJ3, HB2.out.trans (hb3.mono (Nat.le_refl _)), hk3.same _ _ HC2.out ⟨.inr ⟨_, rfl⟩, rfl⟩⟩
            clear hR hJ3 hk3 hb3
            gi_wp2
            go_roundw
            case rel => exact ⟨k + r + 1, pre ++ [(k, r)], by go_num, by omega, HST3.out⟩
            case measure => simp [intOf]; omega
          · clear hR
            gi_wp2
            refine bodyPost_ret (results_none rfl _ _ _) rfl ?_
            exact ⟨⟨_, rfl⟩, .inr ⟨_, ⟨_, HPRE.out⟩, hJx3⟩⟩
        · obtain rfl : r = 0 := by omega
          rw [HSTEP, if_neg (by omega), List.nil_append] at HRUN
          have HST3 : Hid (Stand w0 _ sB n B f0 J pre (k + 0 + 1) w2) := ⟨HRUN, HJ2.out, HB2.out, HC2.out⟩
          clear hY HRUN HSTEP
          gi_wp2
          refine ⟨fun f h => (by cases h), ?_⟩
          gi_wp2
          go_roundw
          case rel => exact ⟨k + 0 + 1, pre, by go_num, by omega, HST3.out⟩
          case measure => simp [intOf]; omega
    · have HRUN : Hid (pre = runsL B n n f0) := by
        show _ = _
        have := Hst.out.runs
        rw [runsL_end B n n k (by omega), List.append_nil] at this
        exact this
      rcases hvv with rfl | ⟨b, rfl⟩
      all_goals
        gi_wp2_with fail
        refine ⟨trivial, fun h => (by cases h), ?_⟩
        refine (callsIn_wide.2 hend).mono ?_
        rintro e w1 ⟨rfl, rfl⟩
        clear hend
        gi_wp2
        go_end0
        exact ⟨⟨_, rfl⟩, .inl ⟨pre, HRUN.out, Hst.out.j⟩⟩

end Go.Proofs.YtkflhakgfpiiaaaDoor.Bt
