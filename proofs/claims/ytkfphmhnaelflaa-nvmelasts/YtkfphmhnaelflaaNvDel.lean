/-
  One command is taken out of a row. No condition.
-/
import Derived.Test.YtkfphmhnaelflaaNvKept
import Derived.Test.YtkfphmhnaelflaaNvSub
namespace Go.Proofs.Ytkfphmhnaelflaa.Nv
open Go.ChangeShapes Go.WideShapes Go.ChangeAt Go.RowKit Go.Proofs.Fa

variable {w : World}

theorem ccells_take (l : List Cmd) (i : Nat) : (ccells l).take (i * 4) = ccells (l.take i) := by
  induction l generalizing i with
  | nil => simp [ccells]
  | cons c r ih =>
    cases i with
    | zero => simp [ccells]
    | succ i => rw [show (i + 1) * 4 = i * 4 + 1 + 1 + 1 + 1 by omega]; simp [ccells, ih]
theorem ccells_drop (l : List Cmd) (i : Nat) : (ccells l).drop (i * 4) = ccells (l.drop i) := by
  induction l generalizing i with
  | nil => simp [ccells]
  | cons c r ih =>
    cases i with
    | zero => simp
    | succ i => rw [show (i + 1) * 4 = i * 4 + 1 + 1 + 1 + 1 by omega]; simp [ccells, ih]

/-- The zero of some commands. -/
theorem clear_run (w : World) (g k n c : Nat) (cur : Array Value) (hn : 0 < n) (hg : w.heap[g]? = some (.cells cur 37 (0, 0))) (hf : k + n * 4 ≤ cur.size) (ty : TypeId) :
    ∃ cur' : Array Value, (Builtin.clear_ #[44] ty #[.slice (some ⟨g, k, none⟩) n c]).run Try.prog w = .ok (.tuple #[]) (w.setRow g cur') ∧ cur'.size = cur.size ∧ cur'.toList.take k = cur.toList.take k := by
  obtain ⟨zs, hzs⟩ : ∃ zs, zs = (Builtin.zeroCells (Value.agg #[.int .i64 0, .int .i64 0, .string ⟨#[]⟩, .int .i64 0]).cells n).toList := ⟨_, rfl⟩
  have hc : (Value.agg #[.int .i64 0, .int .i64 0, .string ⟨#[]⟩, .int .i64 0]).cells = #[.int .i64 0, .int .i64 0, .string ⟨#[]⟩, .int .i64 0] := rfl
  have hl : zs.length = n * 4 := by rw [hzs, hc]; simp [Builtin.zeroCells]
  have h1 : ∀ v ∈ zs, v.oneCell' = true := by
    intro v hv
    rw [hzs, hc] at hv
    simp only [Builtin.zeroCells, Array.toList_map, List.mem_map] at hv
    obtain ⟨i, _, rfl⟩ := hv
    have hi : i % 4 < 4 := Nat.mod_lt _ (by decide)
    show ((#[Value.int IntKind.i64 0, Value.int .i64 0, Value.string ⟨#[]⟩, Value.int .i64 0] : Array Value)[i % 4]!).oneCell' = true
    generalize i % 4 = q at hi
    match q, hi with
    | 0, _ => rfl
    | 1, _ => rfl
    | 2, _ => rfl
    | 3, _ => rfl
  have hst := run_storeCells_at Try.prog g k 37 zs 0 cur w hg (by omega) h1
  simp only [Nat.add_zero] at hst
  refine ⟨(cur.toList.take k ++ zs ++ cur.toList.drop (k + zs.length)).toArray, ?_, ?_, ?_⟩
  · obtain ⟨m, rfl⟩ : ∃ m, n = m + 1 := ⟨n - 1, by omega⟩
    have hz : ∀ w', (zeroValue 37).run Try.prog w' = .ok (Value.agg #[.int .i64 0, .int .i64 0, .string ⟨#[]⟩, .int .i64 0]) w' := Try.zeroValue37
    simp [Builtin.clear_, run_underlying Try.underlying44, hz, ← hzs, hst]
  · simp only [List.size_toArray, List.length_append, List.length_take, List.length_drop, Array.length_toList, hl]; omega
  · simp only [List.append_assoc]
    rw [List.take_append_of_le_length (by simp; omega), List.take_take, Nat.min_self]

set_option maxRecDepth 100000
set_option maxHeartbeats 4000000

theorem delete_any (v : Value) (l : List Cmd) (i : Nat) (hi : i < l.length) (hn : l.length ≤ 1000000) (hr : w.ownsRow 0 37 4 v l.length (ccells l)) :
    Calls Try.prog 24 #[v, .int .i64 i, .int .i64 (i + 1)] w fun e w' => ∃ v', e = .returned v' ∧ w'.ownsRow 0 37 4 v' (l.eraseIdx i).length (ccells (l.eraseIdx i)) ∧ v'.ownBlock = v.ownBlock ∧ Turn (fun k => v.ownBlock = some k) w w' ∧ w'.heap.size = w.heap.size := by
  obtain ⟨i0, hin, hz0, hz1, hz2⟩ := info_parts info_cmd4
  rcases hr.2 with ⟨_, h0⟩ | ⟨g, cap, cur, rfl, _, hgg, hnc, hcm, hcs, ht⟩
  · omega
  · have hu : cap ≤ 9223372036854775807 := by unfold maxLen at hcm; omega
    obtain ⟨m, hm⟩ : ∃ m, l.length = i + 1 + m := ⟨l.length - (i + 1), by omega⟩
    have hel : (l.eraseIdx i).length = i + m := by rw [List.length_eraseIdx, if_pos hi]; omega
    have hce : ccells (l.eraseIdx i) = ccells (l.take i) ++ ccells (l.drop (i + 1)) := by rw [List.eraseIdx_eq_take_drop_succ, ccells_append]
    have hdl : (ccells (l.drop (i + 1))).length = m * 4 := by rw [ccells_length, List.length_drop]; omega
    have htl : (ccells (l.take i)).length = i * 4 := by rw [ccells_length, List.length_take]; omega
    have hfr : cur.toList.take (i * 4) = ccells (l.take i) := by
      have := congrArg (List.take (i * 4)) ht
      rw [List.take_take, Nat.min_eq_left (by omega), ccells_take] at this
      exact this
    have hmc : i + 1 + m ≤ cap := by omega
    obtain ⟨ad, had⟩ : ∃ ad : Addr, (if cap = i + 1 then some ⟨g, 0, none⟩ else some ⟨g, (i + 1) * 4, none⟩ : Option Addr) = some ad ∧ ∀ j u, (ccells (l.drop (i + 1)))[j]? = some u → w.cell? (ad.add j) = some u := by
      by_cases hc : cap = i + 1
      · refine ⟨⟨g, 0, none⟩, if_pos hc, fun j u hu => ?_⟩
        have hj := (List.getElem?_eq_some_iff.1 hu).1
        omega
      · refine ⟨⟨g, (i + 1) * 4, none⟩, if_neg hc, fun j u hu => ?_⟩
        rw [← ccells_drop, List.getElem?_drop] at hu
        have := hr.cells (g := g) rfl _ _ hu
        simpa [Addr.add_lit] using this
    have hrun := run_append_room (P := Try.prog) w.drew 44 44 37 i0 Try.underlying44 hin g i cap cur hgg ad m (cap - (i + 1)) (ccells (l.drop (i + 1))) (by rw [hz1]; exact hdl) had.2 (ccells_one _) (by omega) (by rw [hz1, hdl]; omega)
    rw [← had.1, hz1, hfr] at hrun
    obtain ⟨cur1, hcur1⟩ : ∃ cur1, cur1 = (ccells (l.take i) ++ ccells (l.drop (i + 1)) ++ cur.toList.drop (i * 4 + (ccells (l.drop (i + 1))).length)).toArray := ⟨_, rfl⟩
    rw [← hcur1] at hrun
    have hs1 : cur1.size = cap * 4 := by
      rw [hcur1]
      simp only [List.size_toArray, List.length_append, List.length_drop, Array.length_toList, htl, hdl, hcs]
      omega
    have hk1 : cur1.toList.take ((i + m) * 4) = ccells (l.eraseIdx i) := by
      rw [hcur1, hce]
      exact List.take_left' (by rw [List.length_append, htl, hdl]; omega)
    have hg1 : (w.drew.setRow g cur1).heap[g]? = some (.cells cur1 37 (0, 0)) := setRow_heap _ g cur cur1 _ _ hgg
    obtain ⟨cur2, hcl, hs2, hk2⟩ := clear_run (w.drew.setRow g cur1) g ((i + m) * 4) (i + 1 + m - (i + m)) (cap - (i + m)) cur1 (by omega) hg1 (by omega) 0
    have HFIN : Hid (((w.drew.setRow g cur1).setRow g cur2).ownsRow 0 37 4 (.slice (some ⟨g, 0, none⟩) (i + m) cap) (l.eraseIdx i).length (ccells (l.eraseIdx i))) := by
      refine ⟨by rw [ccells_length], .inr ⟨g, cap, cur2, by rw [hel], Nat.zero_le _, setRow_heap _ g cur1 cur2 _ _ hg1, by omega, hcm, by rw [hs2, hs1], ?_⟩⟩
      rw [hel, hk2, hk1]
    have HTN : Hid (Turn (fun k => some g = some k) w ((w.drew.setRow g cur1).setRow g cur2)) := by
      refine ⟨rfl, rfl, rfl, by simp, fun k hk hs => ?_⟩
      have hkg : k ≠ g := fun e => hs (by rw [e])
      rw [setRow_other _ g k _ hkg, setRow_other _ g k _ hkg]
      rfl
    have hne : ((i : Int) == (i : Int) + 1) = false := beq_eq_false_iff_ne.2 (by omega)
    have hic : i ≤ cap := by omega
    have hic1 : i + 1 ≤ cap := by omega
    have hcq : ¬ cap = i + m := by omega
    have hb5 : (0 : Int) ≤ (i : Int) + 1 ∧ (i : Int) + 1 ≤ (i : Int) + 1 + (m : Int) := by omega
    clear ht hr hgg hce hdl htl hfr hcs hz0 hz1 hz2 hin hcm hnc hel hs1 hk1 hs2 hk2 hg1 hcur1
    clear had
    rw [hm]
    go_enter Try.func24, Try.ntmps24
    go_wp2_with fail
    refine wp_region_held_drew (S := fun _ => True) (by kernel_rfl) (by exact True.intro) (fun hHeld => ?_)
    change wpAnyH _ _ _ _ _ 8 (Array.replicate 8 false) _ _
    refine wpAnyH_take (i := 0) (oi := _) (v := _) (by simp only [List.getElem?_toArray, List.getElem?_cons_zero]; rfl) (by kernel_rfl) (by kernel_rfl) (by kernel_rfl) (by exact fun _ _ _ h => h) (Or.inl ⟨by rfl, by intro w' hSw; (try dsimp only at hSw); first | (go_simp; done) | (go_simp; with_reducible rfl)⟩) hHeld ?_
    simp only [Act.put, List.setIfInBounds_toArray, List.set_cons_zero, List.set_cons_succ]
    refine wpAnyH_take (i := 1) (oi := _) (v := _) (by simp only [List.getElem?_toArray, List.getElem?_cons_succ, List.getElem?_cons_zero]; rfl) (by kernel_rfl) (by kernel_rfl) (by kernel_rfl) (by exact fun _ _ _ h => h) (Or.inl ⟨by rfl, by intro w' hSw; (try dsimp only at hSw); first | (go_simp; done) | (go_simp; with_reducible rfl)⟩) hHeld ?_
    simp only [Act.put, List.setIfInBounds_toArray, List.set_cons_zero, List.set_cons_succ]
    refine wpAnyH_take (i := 2) (oi := _) (v := _) (by simp only [List.getElem?_toArray, List.getElem?_cons_succ, List.getElem?_cons_zero]; rfl) (by kernel_rfl) (by kernel_rfl) (by kernel_rfl) (by exact fun _ _ _ h => h) (Or.inl ⟨by rfl, by intro w' hSw; (try dsimp only at hSw); first | (go_simp; done) | (go_simp; with_reducible rfl)⟩) hHeld ?_
    simp only [Act.put, List.setIfInBounds_toArray, List.set_cons_zero, List.set_cons_succ]
    refine wpAnyH_take (i := 3) (oi := _) (v := _) (by simp only [List.getElem?_toArray, List.getElem?_cons_succ, List.getElem?_cons_zero]; rfl) (by kernel_rfl) (by kernel_rfl) (by kernel_rfl) (by exact fun _ _ _ h => h) (Or.inl ⟨by rfl, by intro w' hSw; (try dsimp only at hSw); first | (go_simp; done) | (go_simp; with_reducible rfl)⟩) hHeld ?_
    simp only [Act.put, List.setIfInBounds_toArray, List.set_cons_zero, List.set_cons_succ]
    refine wpAnyH_take (i := 4) (oi := _) (v := _) (by simp only [List.getElem?_toArray, List.getElem?_cons_succ, List.getElem?_cons_zero]; rfl) (by kernel_rfl) (by kernel_rfl) (by kernel_rfl) (by exact fun _ _ _ h => h) (Or.inl ⟨by rfl, by intro w' hSw; (try dsimp only at hSw); first | (go_simp; done) | (go_simp; with_reducible rfl)⟩) hHeld ?_
    simp only [Act.put, List.setIfInBounds_toArray, List.set_cons_zero, List.set_cons_succ]
    refine wpAnyH_take (i := 5) (oi := _) (v := _) (by simp only [List.getElem?_toArray, List.getElem?_cons_succ, List.getElem?_cons_zero]; rfl) (by kernel_rfl) (by kernel_rfl) (by kernel_rfl) (by exact fun _ _ _ h => h) (Or.inl ⟨by rfl, by intro w' hSw; (try dsimp only at hSw); first | (go_simp; done) | (go_simp; with_reducible rfl)⟩) hHeld ?_
    simp only [Act.put, List.setIfInBounds_toArray, List.set_cons_zero, List.set_cons_succ]
    refine wpAnyH_ready (rs := [6]) (by kernel_rfl) (by simp) ?_
    refine AllReadyH.cons (o := _) (by simp only [List.getElem?_toArray, List.getElem?_cons_succ, List.getElem?_cons_zero]; rfl) (fun K hK => ?_) AllReadyH.nil
    refine wpH_append (by rfl) rfl rfl rfl hrun ?_
    refine hK.out _ _ (True.intro) (fun hHeld => ?_)
    clear hK K
    simp only [Act.put, List.setIfInBounds_toArray, List.set_cons_zero, List.set_cons_succ]
    refine wpAnyH_take (i := 7) (oi := _) (v := _) (by simp only [List.getElem?_toArray, List.getElem?_cons_succ, List.getElem?_cons_zero]; rfl) (by kernel_rfl) (by kernel_rfl) (by kernel_rfl) (by exact fun _ _ _ h => h) (Or.inl ⟨by rfl, by intro w' hSw; (try dsimp only at hSw); first | (go_simp; done) | (go_simp; with_reducible rfl)⟩) hHeld ?_
    simp only [Act.put, List.setIfInBounds_toArray, List.set_cons_zero]
    refine wpAnyH_done (by kernel_rfl) ?_ _
    clear hHeld hrun
    generalize (if cap = i + 1 then some (⟨g, 0, none⟩ : Addr) else some ⟨g, (i + 1) * 4, none⟩) = oa
    go_wp2
    go_ret
    exact ⟨_, rfl, HFIN.out, rfl, HTN.out, by simp⟩

end Go.Proofs.Ytkfphmhnaelflaa.Nv
