/-
  DeleteFunc at commands of a sector. No condition.
-/
import Derived.Test.YtkfphmhnaelflaaNvDf
namespace Go.Proofs.Ytkfphmhnaelflaa.Nv
open Go.ChangeShapes Go.WideShapes Go.ChangeAt Go.RowKit Go.Proofs.Fa

variable {w : World}

theorem filt_snoc (s : Int) (l : List Cmd) (c : Cmd) : filt s (l ++ [c]) = if (c.sector == s) = true then filt s l else filt s l ++ [c] := by
  unfold filt
  rw [List.filter_append]
  by_cases h : (c.sector == s) = true
  · simp [h]
  · simp [h]
theorem filt_length (s : Int) (l : List Cmd) : (filt s l).length ≤ l.length := List.length_filter_le _ _
theorem filt_all (s : Int) (l : List Cmd) (h : ∀ c ∈ l, c.sector ≠ s) : filt s l = l := by
  unfold filt
  rw [List.filter_eq_self]
  intro c hc
  simpa using h c hc

/-- Where DeleteFunc stands: the first i are those to stay of the first j; from j on all is as it was. -/
structure DfAt (w : World) (g cap : Nat) (cur : Array Value) (l : List Cmd) (s : Int) (i j : Nat) (wr : World) : Prop where
  ij : i < j
  jn : j ≤ l.length
  len : (filt s (l.take j)).length = i
  turn : Turn (fun k => k = g) w wr
  row : ∃ cur' : Array Value, wr.heap[g]? = some (.cells cur' 37 (0, 0)) ∧ cur'.size = cap * 4 ∧ cur'.toList.take (i * 4) = ccells (filt s (l.take j)) ∧ ∀ q, j * 4 ≤ q → cur'[q]? = cur[q]?

/-- One command is laid at the place i. -/
theorem put4_take (cur : Array Value) (i : Nat) (v0 v1 v2 v3 : Value) (xs : List Value) (h : cur.toList.take (i * 4) = xs) (hl : i * 4 + 4 ≤ cur.size) :
    ((((cur.setIfInBounds (i * 4) v0).setIfInBounds (i * 4 + 1) v1).setIfInBounds (i * 4 + 2) v2).setIfInBounds (i * 4 + 3) v3).toList.take ((i + 1) * 4) = xs ++ [v0, v1, v2, v3] := by
  have hx : xs.length = i * 4 := by rw [← h, List.length_take, Array.length_toList]; omega
  apply List.ext_getElem?
  intro q
  simp only [Array.toList_setIfInBounds, List.getElem?_take, List.getElem?_set, List.length_set, Array.length_toList]
  by_cases hq : q < i * 4
  · rw [if_pos (by omega), if_neg (by omega), if_neg (by omega), if_neg (by omega), if_neg (by omega), List.getElem?_append_left (by omega), ← h, List.getElem?_take, if_pos hq]
  · by_cases hq2 : q < (i + 1) * 4
    · rw [if_pos hq2, List.getElem?_append_right (by omega), hx]
      obtain ⟨r, rfl⟩ : ∃ r, q = i * 4 + r := ⟨q - i * 4, by omega⟩
      have hr : r < 4 := by omega
      rw [Nat.add_sub_cancel_left]
      match r, hr with
      | 0, _ => rw [if_neg (by omega), if_neg (by omega), if_neg (by omega), if_pos (by omega), if_pos (by omega)]; rfl
      | 1, _ => rw [if_neg (by omega), if_neg (by omega), if_pos (by omega), if_pos (by omega)]; rfl
      | 2, _ => rw [if_neg (by omega), if_pos (by omega), if_pos (by omega)]; rfl
      | 3, _ => rw [if_pos (by omega), if_pos (by omega)]; rfl
    · rw [if_neg hq2, List.getElem?_eq_none (by simp [hx]; omega)]

set_option maxRecDepth 100000
set_option maxHeartbeats 4000000

theorem deletefunc_any (v : Value) (l : List Cmd) (c : Cmd) (zc : Nat) (hr : w.ownsRow 0 37 4 v l.length (ccells l)) (hn : l.length ≤ 1000000)
    (hz : w.heap[zc]? = some (.cells #[.int .i64 c.kind, .int .i64 c.sector, .string c.data, .int .i64 c.tag] 37 (0, 0))) (hzv : v.ownBlock ≠ some zc) :
    Calls Try.prog 44 #[v, .func (.func 45) #[] #[.pointer (some ⟨zc, 0, none⟩)]] w fun e w' => ∃ v', e = .returned v' ∧ w'.ownsRow 0 37 4 v' (filt c.sector l).length (ccells (filt c.sector l)) ∧ v'.ownBlock = v.ownBlock ∧ Turn (fun k => v.ownBlock = some k) w w' := by
  obtain ⟨a, cap, hv, _⟩ := row_slice hr
  subst hv
  have HR : Hid (w.ownsRow 0 37 4 (.slice a l.length cap) l.length (ccells l)) := hr
  have HZ : Hid (w.heap[zc]? = _) := hz
  clear hr hz
  go_enter Try.func44, Try.ntmps44
  go_wp2_with fail
  refine (index_any _ l c zc HR.out hn HZ.out).mono ?_
  rintro e w1 ⟨⟨r, rfl, hf⟩, hb1⟩
  have HB1 : Hid (Below w.heap.size w w1) := hb1
  clear hb1
  rcases hf with ⟨rfl, hall⟩ | ⟨k0, hk0, rfl, hk1, hno⟩
  · have HE : Hid (filt c.sector l = l) := filt_all _ _ hall
    clear hall
    go_wp2
    go_ret
    exact ⟨_, rfl, by rw [HE.out]; exact row_below HR.out HB1.out, rfl, Turn.of_below HB1.out⟩
  · rcases HR.out.2 with ⟨_, h0⟩ | ⟨g, cap', cur, he, _, hgg, hnc, hcm, hcs, ht⟩
    · omega
    cases he
    have hgz : g ≠ zc := fun e => hzv (by rw [e]; rfl)
    have hne : ((k0 : Int) == -1) = false := beq_eq_false_iff_ne.2 (by omega)
    have HCC : Hid (∀ (q : Nat) (u : Value), (ccells l)[q]? = some u → cur[q]? = some u) := by
      intro q u hu
      have hq := (List.getElem?_eq_some_iff.1 hu).1
      rw [ccells_length] at hq
      rw [← ht, List.getElem?_take, if_pos hq] at hu
      simpa using hu
    have HTK : Hid (∀ k, k ≤ l.length → cur.toList.take (k * 4) = ccells (l.take k)) := by
      intro k hk
      have := congrArg (List.take (k * 4)) ht
      rw [List.take_take, Nat.min_eq_left (by omega), ccells_take] at this
      exact this
    have HSTART : Hid (DfAt w g cap cur l c.sector k0 (k0 + 1) w1) := by
      have hf0 : filt c.sector (l.take k0) = l.take k0 := filt_all _ _ (fun x hx => by
        obtain ⟨j, hj, rfl⟩ := List.getElem_of_mem hx
        rw [List.length_take] at hj
        rw [List.getElem_take]
        exact hno j (by omega) (by omega))
      have hf1 : filt c.sector (l.take (k0 + 1)) = l.take k0 := by
        rw [List.take_succ_eq_append_getElem hk0, filt_snoc, if_pos (by simpa using hk1), hf0]
      refine ⟨by omega, by omega, by rw [hf1, List.length_take]; omega, Turn.of_below HB1.out, cur, (HB1.out.block g (lt_of_heap hgg)).trans hgg, hcs, by rw [hf1]; exact HTK.out k0 (by omega), fun q _ => rfl⟩
    clear hno hk1 ht
    go_wp2
    go_loopw [5, 6] (fun i j wr => ∃ i' j' : Nat, i = .int .i64 i' ∧ j = .int .i64 j' ∧ DfAt w g cap cur l c.sector i' j' wr) (fun _ j _ => l.length - (intOf j).toNat)
    case atStart => exact ⟨k0, k0 + 1, rfl, by go_num, HSTART.out⟩
    case round =>
      obtain ⟨i, j, rfl, rfl, hdf⟩ := hrel
      have HDF : Hid (DfAt w g cap cur l c.sector i j wr) := hdf
      obtain ⟨cur', hg', hs', htk, hrest⟩ := hdf.row
      have hij := hdf.ij
      have hjn := hdf.jn
      clear hdf HSTART
      by_cases hlt : j < l.length
      · obtain ⟨cc, hck⟩ : ∃ cc, l[j] = cc := ⟨_, rfl⟩
        have hcc := ccells_at l j cc (by rw [List.getElem?_eq_getElem hlt, hck])
        have e0 : wr.cell? ⟨g, j * 4, none⟩ = some (.int .i64 cc.kind) := cell_of_heap hg' _ _ ((hrest _ (by omega)).trans (HCC.out _ _ hcc.1))
        have e1 : wr.cell? ⟨g, j * 4 + 1, none⟩ = some (.int .i64 cc.sector) := cell_of_heap hg' _ _ ((hrest _ (by omega)).trans (HCC.out _ _ hcc.2.1))
        have e2 : wr.cell? ⟨g, j * 4 + 2, none⟩ = some (.string cc.data) := cell_of_heap hg' _ _ ((hrest _ (by omega)).trans (HCC.out _ _ hcc.2.2.1))
        have e3 : wr.cell? ⟨g, j * 4 + 3, none⟩ = some (.int .i64 cc.tag) := cell_of_heap hg' _ _ ((hrest _ (by omega)).trans (HCC.out _ _ hcc.2.2.2))
        have HFS : Hid (filt c.sector (l.take (j + 1)) = if (cc.sector == c.sector) = true then filt c.sector (l.take j) else filt c.sector (l.take j) ++ [cc]) := by
          show _ = _
          rw [List.take_succ_eq_append_getElem hlt, filt_snoc, hck]
        have HG : Hid (wr.heap[g]? = some (.cells cur' 37 (0, 0))) := hg'
        have HS : Hid (cur'.size = cap * 4) := hs'
        have HTT : Hid (cur'.toList.take (i * 4) = ccells (filt c.sector (l.take j))) := htk
        have HRS : Hid (∀ q : Nat, j * 4 ≤ q → cur'[q]? = cur[q]?) := hrest
        clear hcc hg' hs' htk hrest hck
        obtain ⟨xk, xs, xd, xt⟩ := cc
        obtain ⟨wa, hwa⟩ : ∃ wa, wa = wr.alloc (Obj.cells #[.int .i64 xk, .int .i64 xs, .string xd, .int .i64 xt] 37) := ⟨_, rfl⟩
        have hba : Below wr.heap.size wr wa := by rw [hwa]; exact (Below.refl _ _).alloc (Nat.le_refl _) _
        have hza : wa.heap[zc]? = _ := (hba.block zc (by have h1 := lt_of_heap HZ.out; have h2 := HDF.out.turn.size; omega)).trans ((HDF.out.turn.block zc (lt_of_heap HZ.out) (fun e => hgz e.symm)).trans HZ.out)
        have HXa : wa.heap[wr.heap.size]? = some (.cells #[.int .i64 xk, .int .i64 xs, .string xd, .int .i64 xt] 37 (0, 0)) := by rw [hwa]; exact heap_alloc_new _ _
        go_wp2_with fail
        rw [← hwa]
        clear hwa
        refine (write1_any ⟨xk, xs, xd, xt⟩ c zc wa hza).mono ?_
        rintro e w2 ⟨rfl, hb2⟩
        have HB2 : Hid (Below wr.heap.size wr w2) := hba.trans (hb2.mono hba.size)
        obtain ⟨a0, a1, a2, a3, _⟩ := agg4 ((hb2.block _ (lt_of_heap HXa)).trans HXa)
        have HG2 : Hid (w2.heap[g]? = some (.cells cur' 37 (0, 0))) := (HB2.out.block g (lt_of_heap HG.out)).trans HG.out
        have HT2 : Hid (Turn (fun k => k = g) w w2) := HDF.out.turn.trans (Turn.of_below HB2.out)
        clear hb2 hba hza HXa wa
        have HFS : Hid (filt c.sector (l.take (j + 1)) = if (xs == c.sector) = true then filt c.sector (l.take j) else filt c.sector (l.take j) ++ [⟨xk, xs, xd, xt⟩]) := HFS
        cases hs : (xs == c.sector)
        · rw [hs, if_neg (by decide)] at HFS
          have hsz := HS.out
          have u0 : ∃ u, w2.cell? ⟨g, i * 4, none⟩ = some u := ⟨_, cell_of_heap HG2.out (i * 4) _ (Array.getElem?_eq_getElem (by omega))⟩
          have u1 : ∃ u, w2.cell? ⟨g, i * 4 + 1, none⟩ = some u := ⟨_, cell_of_heap HG2.out (i * 4 + 1) _ (Array.getElem?_eq_getElem (by omega))⟩
          have u2 : ∃ u, w2.cell? ⟨g, i * 4 + 2, none⟩ = some u := ⟨_, cell_of_heap HG2.out (i * 4 + 2) _ (Array.getElem?_eq_getElem (by omega))⟩
          have u3 : ∃ u, w2.cell? ⟨g, i * 4 + 3, none⟩ = some u := ⟨_, cell_of_heap HG2.out (i * 4 + 3) _ (Array.getElem?_eq_getElem (by omega))⟩
          obtain ⟨y0, u0⟩ := u0
          obtain ⟨y1, u1⟩ := u1
          obtain ⟨y2, u2⟩ := u2
          obtain ⟨y3, u3⟩ := u3
          have f0 := free_of_heap HG2.out (i * 4)
          have f1 := free_of_heap HG2.out (i * 4 + 1)
          have f2 := free_of_heap HG2.out (i * 4 + 2)
          have f3 := free_of_heap HG2.out (i * 4 + 3)
          have HNX : Hid (DfAt w g cap cur l c.sector (i + 1) (j + 1) ((((w2.setCell ⟨g, i * 4, none⟩ (.int .i64 xk)).setCell ⟨g, i * 4 + 1, none⟩ (.int .i64 xs)).setCell ⟨g, i * 4 + 2, none⟩ (.string xd)).setCell ⟨g, i * 4 + 3, none⟩ (.int .i64 xt))) := by
            refine ⟨by omega, by omega, by rw [HFS.out, List.length_append, HDF.out.len]; rfl, (((HT2.out.setCell g _ _ (.inl rfl)).setCell g _ _ (.inl rfl)).setCell g _ _ (.inl rfl)).setCell g _ _ (.inl rfl), _, set_main (set_main (set_main (set_main HG2.out _ _) _ _) _ _) _ _, by simpa using hsz, ?_, ?_⟩
            · rw [HFS.out, ccells_append]
              exact put4_take cur' i _ _ _ _ _ HTT.out (by omega)
            · intro q hq
              rw [Array.getElem?_setIfInBounds_ne (by omega), Array.getElem?_setIfInBounds_ne (by omega), Array.getElem?_setIfInBounds_ne (by omega), Array.getElem?_setIfInBounds_ne (by omega)]
              exact HRS.out q (by omega)
          clear hs hsz
          go_wp2
          go_roundw
          case rel => exact ⟨i + 1, j + 1, by go_num, by go_num, HNX.out⟩
          case measure => simp [intOf]; omega
        · rw [hs, if_pos rfl] at HFS
          have HNX : Hid (DfAt w g cap cur l c.sector i (j + 1) w2) :=
            ⟨by omega, by omega, by rw [HFS.out, HDF.out.len], HT2.out, cur', HG2.out, HS.out, by rw [HFS.out]; exact HTT.out, fun q hq => HRS.out q (by omega)⟩
          clear hs
          go_wp2
          go_roundw
          case rel => exact ⟨i, j + 1, rfl, by go_num, HNX.out⟩
          case measure => simp [intOf]; omega
      · obtain rfl : j = l.length := by omega
        have hlen := HDF.out.len
        rw [List.take_length] at htk hlen
        obtain ⟨cur2, hcl, hs2, hk2⟩ := clear_run wr g (i * 4) (l.length - i) (cap - i) cur' (by omega) hg' (by omega) 0
        have HFIN : Hid ((wr.setRow g cur2).ownsRow 0 37 4 (.slice (some ⟨g, 0, none⟩) i cap) (filt c.sector l).length (ccells (filt c.sector l))) := by
          refine ⟨by rw [ccells_length], .inr ⟨g, cap, cur2, by rw [hlen], Nat.zero_le _, setRow_heap _ g cur' cur2 _ _ hg', by omega, hcm, by rw [hs2, hs'], ?_⟩⟩
          rw [hlen, hk2, htk]
        have HTN : Hid (Turn (fun k => some g = some k) w (wr.setRow g cur2)) := by
          refine ⟨HDF.out.turn.os, HDF.out.turn.tape, HDF.out.turn.output, by have := HDF.out.turn.size; simpa using this, fun k hk hs => ?_⟩
          have hkg : k ≠ g := fun e => hs (by rw [e])
          rw [setRow_other _ g k _ hkg]
          exact HDF.out.turn.block k hk hkg
        have hci : ¬ cap = i := by omega
        have hic : i ≤ cap := by omega
        have hil : i ≤ l.length := by omega
        clear hg' hs' htk hrest hs2 hk2 hlen
        go_wp2
        go_ret
        exact ⟨_, rfl, HFIN.out, rfl, HTN.out⟩

end Go.Proofs.Ytkfphmhnaelflaa.Nv
