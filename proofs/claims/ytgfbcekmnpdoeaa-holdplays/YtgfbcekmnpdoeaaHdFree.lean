/-
  What is free of the document's holds. No condition.
-/
import Derived.Test.YtgfbcekmnpdoeaaHdFr
namespace Go.Proofs.Ytgfbcekmnpdoeaa.Hdi
open Go.ChangeShapes Go.WideShapes Go.ChangeAt Go.RowKit Go.Proofs.Fa Go.Proofs.Ytgfbcekmnpdoeaa.Hd
open Go.Proofs.Ytgfbcekmnpdoeaa.Nv (Turn Grow lt_of_heap lt_of_cell cell_of_heap free_of_heap icells scells icells_one scells_one)

set_option maxRecDepth 100000
set_option maxHeartbeats 4000000

variable {w : World} {b : Nat} {last : Int} {ins : List Int} {T : List Th} {vi vl : Value}

theorem emp_succ (T : List Th) (k : Nat) (hk : k < T.length) : emp (T.take (k + 1)) = if T[k].bs = [] then emp (T.take k) ++ [T[k]] else emp (T.take k) := by
  unfold emp
  rw [List.take_succ_eq_append_getElem hk, List.filter_append]
  by_cases e : T[k].bs = []
  · simp [e]
  · simp [e]
theorem non_succ (T : List Th) (k : Nat) (hk : k < T.length) : non (T.take (k + 1)) = if T[k].bs = [] then non (T.take k) else non (T.take k) ++ [T[k]] := by
  unfold non
  rw [List.take_succ_eq_append_getElem hk, List.filter_append]
  by_cases e : T[k].bs = []
  · simp [e]
  · simp [e]
theorem emp_len (T : List Th) (k : Nat) : (emp (T.take k)).length ≤ T.length := by
  have := List.length_filter_le (fun t : Th => t.bs.isEmpty) (T.take k)
  rw [List.length_take] at this
  show (List.filter _ _).length ≤ _
  omega
theorem non_len (T : List Th) (k : Nat) : (non (T.take k)).length ≤ T.length := by
  have := List.length_filter_le (fun t : Th => !t.bs.isEmpty) (T.take k)
  rw [List.length_take] at this
  show (List.filter _ _).length ≤ _
  omega

theorem free_any (h : RefIn w b last ins T vi vl) (hl : T.length ≤ 100000) :
    Calls Try.prog 43 #[.pointer (some ⟨b, 0, none⟩)] w fun e w' => ∃ v' vl', e = .returned v' ∧ TRow w' w.heap.size v' ((emp T).map Th.x) ∧ RefIn w' b last ins (non T) vi vl' ∧ Turn (fun k => k = b) w w' ∧ (∀ q, vl'.ownBlock = some q → w.heap.size ≤ q) := by
  have HD : Hid (RefIn w b last ins T vi vl) := h
  have hbw := lt_of_heap h.main
  obtain ⟨a, cap, rfl⟩ := h.row.slice
  clear h
  go_enter Try.func43, Try.ntmps43
  go_wp2_with fail
  go_loopw [3, 4, 5] (fun ov lv iv wr => ∃ k : Nat, k ≤ T.length ∧ iv = .int .i64 k ∧ TRow wr w.heap.size ov ((emp (T.take k)).map Th.x) ∧ ThRow wr w.heap.size lv (non (T.take k)) ∧ Below w.heap.size w wr) (fun _ _ iv _ => T.length - (intOf iv).toNat)
  case atStart => exact ⟨0, Nat.zero_le _, rfl, World.ownsRow_nil _ _ _ _, World.ownsRow_nil _ _ _ _, Below.refl _ _⟩
  case round =>
    obtain ⟨k, hk, rfl, ho, hn, hb⟩ := hrel
    have HO : Hid (TRow wr w.heap.size u3 ((emp (T.take k)).map Th.x)) := ho
    have HN : Hid (ThRow wr w.heap.size u4 (non (T.take k))) := hn
    have HB : Hid (Below w.heap.size w wr) := hb
    clear ho hn hb
    have c2 := cell_of_heap ((HB.out.block b hbw).trans HD.out.main) 2 _ rfl
    have f2 := free_of_heap ((HB.out.block b hbw).trans HD.out.main) 2
    by_cases hlt : k < T.length
    · obtain ⟨g, rfl, hgl, _, hc1, hc2, e0, e1⟩ := HD.out.row.cell k hlt
      have d0 := (HB.out.cell (p := ⟨g, k * 2, none⟩) hgl).trans e0
      have d1 := (HB.out.cell (p := ⟨g, k * 2 + 1, none⟩) hgl).trans e1
      have HES : Hid (emp (T.take (k + 1)) = _) := emp_succ T k hlt
      have HNS : Hid (non (T.take (k + 1)) = _) := non_succ T k hlt
      obtain ⟨ta, tc, htv⟩ := (HD.out.all T[k] (List.getElem_mem hlt)).slice
      have hel := emp_len T k
      have hnl := non_len T k
      clear e0 e1
      generalize T[k] = t at *
      obtain ⟨tx, tv, tb⟩ := t
      dsimp only at d0 d1 htv HES HNS
      subst htv
      by_cases hte : tb = []
      · subst hte
        rw [if_pos rfl] at HES HNS
        obtain ⟨v', W', hrun, hr, hbl, hot⟩ := app_lit HO.out HB.out.size (by rw [List.length_map]; omega) tx
        have HO' : Hid (TRow W' w.heap.size v' ((emp (T.take (k + 1))).map Th.x)) := by
          rw [HES.out, List.map_append]
          exact hr
        have HN' : Hid (ThRow W' w.heap.size u4 (non (T.take (k + 1)))) := by
          rw [HNS.out]
          exact HN.out.keep (fun q hq => hot q (HN.out.lt q hq) (fun e => apart_rows HO.out HN.out q e hq))
        have HB' : Hid (Below w.heap.size w W') := HB.out.trans (hbl _ (Nat.le_refl _))
        clear hr hbl hot hel hnl
        go_wp2_with (first | (at_builtin; refine wpList_append_run rfl _ _ _ rfl _ _ rfl rfl hrun ?_) | go_in)
        go_roundw
        case rel => exact ⟨k + 1, by omega, by go_num, HO'.out, HN'.out, HB'.out⟩
        case measure => simp [intOf]; omega
      · have hne : (((tb.length : Nat) : Int) == 0) = false := by
          rw [beq_eq_false_iff_ne]
          intro e
          exact hte (List.eq_nil_of_length_eq_zero (by omega))
        rw [if_neg hte] at HES HNS
        obtain ⟨v', W', hrun, hr, hbl, hot⟩ := app_th HN.out HB.out.size (by omega) tx ta tb.length tc tb
        have HO' : Hid (TRow W' w.heap.size u3 ((emp (T.take (k + 1))).map Th.x)) := by
          rw [HES.out]
          exact HO.out.keep (fun q hq => hot q (HO.out.lt q hq) (apart_rows HO.out HN.out q hq))
        have HN' : Hid (ThRow W' w.heap.size v' (non (T.take (k + 1)))) := by
          rw [HNS.out]
          exact hr
        have HB' : Hid (Below w.heap.size w W') := HB.out.trans (hbl _ (Nat.le_refl _))
        clear hr hbl hot hel hnl hte
        go_wp2_with (first | (at_builtin; refine wpList_append_run rfl _ _ _ rfl _ _ rfl rfl hrun ?_) | go_in)
        go_roundw
        case rel => exact ⟨k + 1, by omega, by go_num, HO'.out, HN'.out, HB'.out⟩
        case measure => simp [intOf]; omega
    · obtain rfl : k = T.length := by omega
      rw [List.take_length] at HO HN
      have hb := HB.out
      have hlb : ∀ {q}, q < w.heap.size → q ≠ b → (wr.setCell ⟨b, 2, none⟩ u4).heap[q]? = w.heap[q]? := fun {q} hq hqb => (heap_setCell_other wr ⟨b, 2, none⟩ q _ hqb).trans (hb.block q hq)
      have ht : Turn (fun k => k = b) w (wr.setCell ⟨b, 2, none⟩ u4) := (Turn.of_below hb).setCell b 2 _ (.inl rfl)
      have HF : Hid (TRow (wr.setCell ⟨b, 2, none⟩ u4) w.heap.size u3 ((emp T).map Th.x) ∧ RefIn (wr.setCell ⟨b, 2, none⟩ u4) b last ins (non T) vi u4 ∧ Turn (fun k => k = b) w (wr.setCell ⟨b, 2, none⟩ u4) ∧ (∀ q, u4.ownBlock = some q → w.heap.size ≤ q)) := by
        refine ⟨HO.out.keep (fun q hq => heap_setCell_other wr ⟨b, 2, none⟩ q _ (by have := HO.out.ge q hq; show q ≠ b; omega)), ⟨?_, HD.out.ins.keep (fun g hg => ht.block g (HD.out.ins.lt g hg) (HD.out.ni g hg)), ?_, fun t ht' => ?_, HD.out.ni, fun t ht' => HD.out.nt t (List.mem_filter.1 ht').1⟩, ht, HN.out.ge⟩
        · exact heap_setCell_same wr b 2 _ _ _ ((hb.block b hbw).trans HD.out.main)
        · exact ThRow.base (HN.out.keep (fun q hq => heap_setCell_other wr ⟨b, 2, none⟩ q _ (by have := HN.out.ge q hq; show q ≠ b; omega))) (Nat.zero_le _)
        · have hm := (List.mem_filter.1 ht').1
          exact (HD.out.all t hm).keep (fun g hg => ht.block g ((HD.out.all t hm).lt g hg) (HD.out.nt t hm g hg))
      obtain ⟨na, nc, hnv⟩ := HN.out.slice
      obtain ⟨oa, oc, hov⟩ := HO.out.slice
      clear hb hlb ht
      subst hnv hov
      go_wp2
      go_ret
      exact ⟨_, _, rfl, HF.out.1, HF.out.2.1, HF.out.2.2⟩

end Go.Proofs.Ytgfbcekmnpdoeaa.Hdi
