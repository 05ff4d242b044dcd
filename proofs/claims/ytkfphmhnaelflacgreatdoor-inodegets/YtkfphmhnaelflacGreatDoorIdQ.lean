/-
  The inode of a body, be it right or not. No condition.
  The program's Get. Condition: the table of four steps holds what its initialiser lays.
  An inode's bytes; a body that is an inode's is that inode's bytes. No condition.
  The program's Put. Condition: the table of four steps holds what its initialiser lays.
  The document's Put. No condition.
  'same' of layer 8's statements, of one list of extents twice; the error's number. Condition: errors.errorType holds its handle.
  InodeGets of layer 8. Conditions: errors.errorType holds its handle, the table of four steps holds what its initialiser lays.
  A region that draws its order, with a condition on the world that may hang on what has come up already: a cell that is loaded, and stored into behind that. Of no program. No condition.
  The extents that came in, laid as the program's and as the document's. No condition.
  InodePuts of layer 8. Conditions: errors.errorType holds its handle, the table of four steps holds what its initialiser lays.
-/
import Derived.Test.YtkfphmhnaelflacGreatDoorIdGetR
import Derived.Test.YtkfphmhnaelflacGreatDoorIdRt
import Derived.Test.YtkfphmhnaelflacGreatDoorIdRef
import Derived.Test.YtkfphmhnaelflacGreatDoorSlSeals
import Derived.Deep.RegionHeld3
import Derived.Test.YtkfphmhnaelflacGreatDoorIdRight
namespace Go.Proofs.YtkfphmhnaelflacGreatDoor.Id
open Go.ChangeShapes Go.WideShapes Go.ChangeAt Go.RowKit Go.Proofs.Fa
open Go.Proofs.YtkfphmhnaelflacGreatDoor.Le (getF inNumF noughtsF endF InS Only read_any innum_any noughts_any InS_new)

/-- The inode under way at block yb, the reader behind the result. -/
structure TI (w W : World) (yb : Nat) (ver : Int) (v : Value) (l : List Ext) (rest : ByteArray) : Prop where
  y : W.heap[yb]? = some (.cells #[.int .i64 ver, v] 26 (0, 0))
  res : W.heap[w.heap.size]? = some (.cells #[.int .i64 0, .slice none 0 0] 26 (0, 0))
  inn : InS W (w.heap.size + 1) rest 0
  row : Row W (w.heap.size + 2) v l
  below : Below w.heap.size w W
  yge : w.heap.size + 2 ≤ yb
  ne : ∀ i, v.ownBlock = some i → i ≠ yb
theorem TI.alloc {w W : World} {yb : Nat} {ver : Int} {v : Value} {l : List Ext} {rest : ByteArray} (h : TI w W yb ver v l rest) (o : Obj) : TI w (W.alloc o) yb ver v l rest :=
  ⟨(Below.heap_alloc _ _ _ (lt_of_heap h.y)).trans h.y, (Below.heap_alloc _ _ _ (lt_of_heap h.res)).trans h.res, h.inn.kept ((Below.refl _ _).alloc (Nat.le_refl _) _), World.ownsRow.alloc h.row o, h.below.alloc h.below.size o, h.yge, h.ne⟩
theorem TI.drew {w W : World} {yb : Nat} {ver : Int} {v : Value} {l : List Ext} {rest : ByteArray} (h : TI w W yb ver v l rest) : TI w W.drew yb ver v l rest :=
  ⟨h.y, h.res, h.inn, World.ownsRow.drew h.row, h.below.drew, h.yge, h.ne⟩
theorem TI.read {w W W' : World} {yb : Nat} {ver : Int} {v : Value} {l : List Ext} {rest rest' : ByteArray} (h : TI w W yb ver v l rest) (ho : Only (w.heap.size + 1) W W') (hi : InS W' (w.heap.size + 1) rest' 0) : TI w W' yb ver v l rest' := by
  have hy := h.yge
  exact ⟨(ho.block _ (by omega)).trans h.y, (ho.block _ (by omega)).trans h.res, hi, row_keep h.row (fun g e => ho.block _ (by have := row_ge h.row g e; omega)), h.below.trans (ho.below (by omega)), h.yge, h.ne⟩
theorem TI.push {w W w5 : World} {yb : Nat} {ver : Int} {v v5 : Value} {l : List Ext} {e : Ext} {rest : ByteArray} (h : TI w W yb ver v l rest)
    (hown : w5.ownsRow (w.heap.size + 2) 51 2 v5 (l.length + 1) (ecells l ++ [.int .i64 e.pos, .int .i64 e.len])) (hg : W.grownBy w5 v.ownBlock) (hnear : Near W v v5) :
    TI w (w5.setCell ⟨yb, 1, none⟩ v5) yb ver v5 (l ++ [e]) rest ∧ w5.heap[yb]? = some (.cells #[.int .i64 ver, v] 26 (0, 0)) := by
  have hy5 : w5.heap[yb]? = some (.cells #[.int .i64 ver, v] 26 (0, 0)) := (hg.block yb (lt_of_heap h.y) (fun e => h.ne yb e.symm rfl)).trans h.y
  have hyl := lt_of_heap h.y
  have hil := h.inn.lt
  have hv5 : ∀ i, v5.ownBlock = some i → i ≠ yb := by
    intro i hi
    rcases hnear with hh | ⟨j, hh, hj⟩
    · rw [hh] at hi; exact h.ne i hi
    · rw [hh] at hi; cases hi; omega
  have hyge := h.yge
  have hin : InS (w5.setCell ⟨yb, 1, none⟩ v5) (w.heap.size + 1) rest 0 := by
    show (w5.setCell ⟨yb, 1, none⟩ v5).heap[w.heap.size + 1]? = _
    rw [heap_setCell_other _ ⟨yb, 1, none⟩ _ _ (by show w.heap.size + 1 ≠ yb; omega), hg.block _ hil (fun e => by have := row_ge h.row _ e.symm; omega)]
    exact h.inn
  refine ⟨⟨heap_setCell_same _ yb 1 _ _ v5 hy5, ?_, hin, ?_, ?_, h.yge, hv5⟩, hy5⟩
  · exact (heap_setCell_other _ ⟨yb, 1, none⟩ _ _ (by show w.heap.size ≠ yb; omega)).trans ((hg.block _ (lt_of_heap h.res) (fun e => by have := row_ge h.row _ e.symm; omega)).trans h.res)
  · show World.ownsRow _ _ _ _ _ _ _
    rw [ecells_append, List.length_append]
    exact row_keep hown (fun g hgb => heap_setCell_other _ ⟨yb, 1, none⟩ _ _ (hv5 g hgb))
  · exact ((h.below.grown hg h.below.size (fun k e => by have := row_ge h.row k e; omega)).setCell (p := ⟨yb, 1, none⟩) (by show w.heap.size ≤ yb; omega) _)

variable {w : World}
set_option maxRecDepth 100000
set_option maxHeartbeats 4000000

def takeE (b : ByteArray) : Int := if 36 < cntG b then 4 else if restG b (7 + 4 * cntG b) = true then 0 else 4
/-- What take answers. -/
def TakeAt (w : World) (b : ByteArray) (r : Ending) (w' : World) : Prop :=
  (∃ ver' v', r = .returned (.tuple #[ino ver' v', errV (takeE b)]) ∧ (takeE b = 0 → ver' = verG b ∧ Row w' w.heap.size v' (lstG b (cntG b))) ∧ (takeE b ≠ 0 → ver' = 0 ∧ v' = .slice none 0 0)) ∧ Below w.heap.size w w'

theorem res_take (tm : Array Value) (rb : Nat) (W : World) (ver : Int) (a : Option Addr) (n c : Nat) (er : Value) (h4 : tm[2]? = some (.pointer (some ⟨rb, 0, none⟩))) (h5 : tm.getD 3 undef = er) (h : W.heap[rb]? = some (.cells #[.int .i64 ver, .slice a n c] 26 (0, 0))) :
    (results Tryz.f29 tm).run Tryz.prog W = .ok (.tuple #[ino ver (.slice a n c), er]) W := by
  obtain ⟨c0, c1, _⟩ := agg2 h
  clear h
  subst h5
  simp [results, Tryz.f29, go_sem, h4, c0, c1, ino]

theorem take_any (b : ByteArray) (hb : b.size = 504) : Calls Tryz.prog 29 #[.string b] w fun r w' => TakeAt w b r w' := by
  obtain ⟨i0, hi, hz0, hz1, hz2⟩ := info_parts info_ext
  obtain ⟨w0, hw0⟩ : ∃ w0, w0 = w.alloc (.cells #[.int .i64 0, .slice none 0 0] 26) := ⟨_, rfl⟩
  have HB0 : Hid (Below w.heap.size w w0) := by rw [hw0]; exact (Below.refl _ _).alloc (Nat.le_refl _) _
  have HR0 : Hid (w0.heap[w.heap.size]? = some (.cells #[.int .i64 0, .slice none 0 0] 26 (0, 0))) := by rw [hw0]; exact heap_alloc_new _ _
  have hs0 : w0.heap.size = w.heap.size + 1 := by rw [hw0]; simp
  have HN1 : Hid (inNumF b 0 6 = (verG b, b.extract 6 504, 0)) := by
    have h := num_of b 0 6 (by decide) (by decide) hb (by decide)
    have e : b.extract 0 504 = b := by rw [← hb]; simp
    rw [e] at h
    exact h
  have HN2 : Hid (inNumF (b.extract 6 504) 0 1 = ((cntG b : Int), b.extract 7 504, 0)) := by
    have h := num_of b 6 1 (by decide) (by decide) hb (by decide)
    rw [cntG_get b hb] at h
    exact h
  have HG : Hid (takeE b = if 36 < cntG b then 4 else if restG b (7 + 4 * cntG b) = true then 0 else 4) := rfl
  have hcl := cntG_lt b
  obtain ⟨vg, hvg⟩ : ∃ x, verG b = x := ⟨_, rfl⟩
  obtain ⟨cn, hcn⟩ : ∃ x, cntG b = x := ⟨_, rfl⟩
  rw [hvg] at HN1
  rw [hcn] at HN2 HG hcl
  have HVG : Hid (verG b = vg) := hvg
  have HCN : Hid (cntG b = cn) := hcn
  clear hvg hcn
  go_enter Tryz.func29, Tryz.ntmps29
  go_wp2_with fail
  rw [← hw0]
  refine (read_any w0 b).mono ?_
  rintro r w2 ⟨rfl, hw2⟩
  have HI2 : Hid (InS w2 (w.heap.size + 1) b 0) := by rw [hw2, ← hs0]; exact InS_new w0 b
  have HB2 : Hid (Below w.heap.size w w2) := by rw [hw2]; exact HB0.out.alloc HB0.out.size _
  have HR2 : Hid (w2.heap[w.heap.size]? = some (.cells #[.int .i64 0, .slice none 0 0] 26 (0, 0))) := by rw [hw2]; exact (Below.heap_alloc _ _ _ (lt_of_heap HR0.out)).trans HR0.out
  rw [hs0]
  clear hw2 HB0 HR0 hw0 hs0
  go_wp2_with fail
  refine (innum_any _ (w.heap.size + 1) b 0 6 HI2.out).mono ?_
  rintro r w3 ⟨rfl, hi3, ho3⟩
  rw [HN1.out] at hi3 ⊢
  dsimp only at hi3 ⊢
  have hB3 : Below w.heap.size w w3 := HB2.out.trans (ho3.below (by omega))
  have hR3 : w3.heap[w.heap.size]? = some (.cells #[.int .i64 0, .slice none 0 0] 26 (0, 0)) := (ho3.block _ (by omega)).trans HR2.out
  have HT3 : Hid (TI w (w3.alloc (Obj.cells #[.int .i64 vg, .slice none 0 0] 26)) w3.heap.size vg (.slice none 0 0) (lstG b 0) (b.extract 6 504)) :=
    ⟨heap_alloc_new _ _, (Below.heap_alloc _ _ _ (lt_of_heap hR3)).trans hR3, hi3.kept ((Below.refl _ _).alloc (Nat.le_refl _) _), World.ownsRow_nil _ _ _ _, hB3.alloc hB3.size _, hi3.lt, fun i h => (by cases h)⟩
  clear hi3 ho3 hB3 hR3 HI2 HB2 HR2 HN1
  go_wp2_with fail
  generalize (w3.alloc (Obj.cells #[.int .i64 vg, .slice none 0 0] 26)) = w4 at *
  generalize w3.heap.size = yb at *
  refine (innum_any _ (w.heap.size + 1) _ 0 1 HT3.out.inn).mono ?_
  rintro r w5 ⟨rfl, hi5, ho5⟩
  rw [HN2.out] at hi5 ⊢
  dsimp only at hi5 ⊢
  have HT5 : Hid (TI w w5 yb vg (.slice none 0 0) (lstG b 0) (b.extract 7 504)) := HT3.out.read ho5 hi5
  clear hi5 ho5 HT3 HN2
  by_cases hbig : 36 < cn
  · have HGE : Hid (takeE b = 4) := by show _ = _; rw [HG.out, if_pos hbig]
    have hbig' : (36 : Int) < (cn : Int) := by omega
    obtain ⟨r0, r1, f0, f1⟩ := agg2 HT5.out.res
    go_wp2
    refine bodyPost_ret (res_take _ w.heap.size _ 0 none 0 0 _ rfl rfl (set2_heap HT5.out.res _ _)) rfl ?_
    exact ⟨⟨0, .slice none 0 0, by rw [HGE.out]; rfl, (fun h => by rw [HGE.out] at h; cases h), fun _ => ⟨rfl, rfl⟩⟩, set2_below HT5.out.below _ (Nat.le_refl _) _ _⟩
  · have hbig' : decide ((36 : Int) < (cn : Int)) = false := decide_eq_false (by omega)
    go_wp2_with fail
    go_loopw [21] (fun i wr => ∃ (k : Nat) (xa : Option Addr) (xc : Nat), k ≤ cn ∧ i = .int .i64 k ∧ TI w wr yb vg (.slice xa k xc) (lstG b k) (b.extract (7 + 4 * k) 504)) (fun i _ => cn - (intOf i).toNat)
    case atStart => exact ⟨0, none, 0, Nat.zero_le _, rfl, HT5.out⟩
    case round =>
      clear HT5
      obtain ⟨k, xa, xc, hk, rfl, hX⟩ := hrel
      have HTI : Hid (TI w wr yb vg (.slice xa k xc) (lstG b k) (b.extract (7 + 4 * k) 504)) := hX
      clear hX
      by_cases hlt : k < cn
      · obtain ⟨i3, hi3⟩ : ∃ i : Nat, i = 7 + 4 * (k + 1) := ⟨_, rfl⟩
        have HI3 : Hid (i3 = 7 + 4 * (k + 1)) := hi3
        have HNA : Hid (inNumF (b.extract (7 + 4 * k) 504) 0 2 = ((extG b k).pos, b.extract (9 + 4 * k) 504, 0)) := by
          have h := num_of b (7 + 4 * k) 2 (by decide) (by decide) hb (by omega)
          rw [show 7 + 4 * k + 2 = 9 + 4 * k by omega] at h
          exact h
        have HNB : Hid (inNumF (b.extract (9 + 4 * k) 504) 0 2 = ((extG b k).len, b.extract i3 504, 0)) := by
          have h := num_of b (9 + 4 * k) 2 (by decide) (by decide) hb (by omega)
          rw [show 9 + 4 * k + 2 = 11 + 4 * k by omega] at h
          rw [hi3, show 7 + 4 * (k + 1) = 11 + 4 * k by omega]
          exact h
        obtain ⟨ex, hex⟩ : ∃ e, extG b k = e := ⟨_, rfl⟩
        have HEX2 : Hid (extG b k = ex) := hex
        rw [hex] at HNA HNB
        obtain ⟨ep, el⟩ := ex
        dsimp only at HNA HNB
        clear hex hi3
        go_wp2_with fail
        refine (innum_any _ (w.heap.size + 1) _ 0 2 HTI.out.inn).mono ?_
        rintro r w6 ⟨rfl, hi6, ho6⟩
        rw [HNA.out] at hi6 ⊢
        dsimp only at hi6 ⊢
        have HT6 : Hid (TI w w6 yb vg (.slice xa k xc) (lstG b k) (b.extract (9 + 4 * k) 504)) := HTI.out.read ho6 hi6
        have HT6d : Hid (TI w w6.drew yb vg (.slice xa k xc) (lstG b k) (b.extract (9 + 4 * k) 504)) := HT6.out.drew
        clear hi6 ho6 HTI HNA
        obtain ⟨x0, x1, x2, x3⟩ := agg2 HT6.out.y
        obtain ⟨xd0, xd1, _, _⟩ := agg2 HT6d.out.y
        go_wp2_with fail
        refine wp_region_held_drew (S := fun _ => True) (by kernel_rfl) (by exact True.intro) (fun hHeld => ?_)
        change wpAnyH _ _ _ _ _ 10 (Array.replicate 10 false) _ _
        refine wpAnyH_take (i := 0) (oi := _) (v := _) (by simp only [List.getElem?_toArray, List.getElem?_cons_zero]; rfl) (by kernel_rfl) (by kernel_rfl) (by kernel_rfl) (by exact fun _ _ _ h => h) (Or.inl ⟨by rfl, by intro w' hSw; (try dsimp only at hSw); first | (go_simp; done) | (go_simp; with_reducible rfl)⟩) hHeld ?_
        simp only [Act.put, List.setIfInBounds_toArray, List.set_cons_zero, List.set_cons_succ]
        refine wpAnyH_take (i := 2) (oi := _) (v := _) (by simp only [List.getElem?_toArray, List.getElem?_cons_succ, List.getElem?_cons_zero]; rfl) (by kernel_rfl) (by kernel_rfl) (by kernel_rfl) (by exact fun _ _ _ h => h) (Or.inl ⟨by rfl, by intro w' hSw; (try dsimp only at hSw); first | (go_simp; done) | (go_simp; with_reducible rfl)⟩) hHeld ?_
        simp only [Act.put, List.setIfInBounds_toArray, List.set_cons_zero, List.set_cons_succ]
        refine wpAnyH_take (i := 3) (oi := _) (v := _) (by simp only [List.getElem?_toArray, List.getElem?_cons_succ, List.getElem?_cons_zero]; rfl) (by kernel_rfl) (by kernel_rfl) (by kernel_rfl) (by exact fun _ _ _ h => h) (Or.inl ⟨by rfl, by intro w' hSw; (try dsimp only at hSw); first | (go_simp; done) | (go_simp; with_reducible rfl)⟩) hHeld ?_
        simp only [Act.put, List.setIfInBounds_toArray, List.set_cons_zero, List.set_cons_succ]
        refine wpAnyH_ready (rs := [1, 4]) (by kernel_rfl) (by simp) ?_
        refine (AllReadyH.cons rfl (fun K hK => ?_) (AllReadyH.cons rfl (fun K hK => ?_) AllReadyH.nil))
        · skip
          go_simp
          go_wp2_with fail
          refine hK.out _ _ True.intro (fun hHeld => ?_)
          clear hK K
          refine wpAnyH_ready (rs := [4]) (by kernel_rfl) (by simp) ?_
          refine AllReadyH.cons rfl (fun K hK => ?_) AllReadyH.nil
          go_simp
          go_wp2_with fail
          refine (innum_any _ (w.heap.size + 1) _ 0 2 HT6d.out.inn).mono ?_
          rintro r w7 ⟨rfl, hi7, ho7⟩
          rw [HNB.out] at hi7 ⊢
          dsimp only at hi7 ⊢
          have HT7 : Hid (TI w w7 yb vg (.slice xa k xc) (lstG b k) (b.extract i3 504)) := HT6d.out.read ho7 hi7
          clear hi7 ho7
          obtain ⟨z0, z1, z2, z3⟩ := agg2 HT7.out.y
          refine hK.out _ _ True.intro (fun hHeld => ?_)
          clear hK K
          refine wpAnyH_take (i := 5) (oi := _) (v := _) (by simp only [List.getElem?_toArray, List.getElem?_cons_succ, List.getElem?_cons_zero]; rfl) (by kernel_rfl) (by kernel_rfl) (by kernel_rfl) (by exact fun _ _ _ h => h) (Or.inl ⟨by rfl, by intro w' hSw; (try dsimp only at hSw); first | (go_simp; done) | (go_simp; with_reducible rfl)⟩) hHeld ?_
          simp only [Act.put, List.setIfInBounds_toArray, List.set_cons_zero, List.set_cons_succ]
          refine wpAnyH_ready (rs := [6]) (by kernel_rfl) (by simp) ?_
          refine AllReadyH.cons rfl (fun K hK => ?_) AllReadyH.nil
          go_simp
          go_wp2_with fail
          obtain ⟨WA, hWA⟩ : ∃ W, W = w7.alloc (Obj.cells #[.int .i64 ep, .int .i64 el] 51) := ⟨_, rfl⟩
          rw [← hWA]
          refine hK.out _ _ True.intro (fun hHeld => ?_)
          clear hK K
          have HIA : Hid (TI w WA yb vg (.slice xa k xc) (lstG b k) (b.extract i3 504)) := by rw [hWA]; exact HT7.out.alloc _
          have hEA : WA.heap[w7.heap.size]? = some (.cells #[.int .i64 ep, .int .i64 el] 51 (0, 0)) := by rw [hWA]; exact heap_alloc_new _ _
          obtain ⟨t0, t1, t2, t3⟩ := agg2 HIA.out.y
          clear hWA
          have hsrc : ∀ j u, [Value.int .i64 ep, Value.int .i64 el][j]? = some u → WA.cell? ((⟨w7.heap.size, 0, none⟩ : Addr).add j) = some u := fun j u hu => by
            rw [show (⟨w7.heap.size, 0, none⟩ : Addr).add j = ⟨w7.heap.size, j, none⟩ by simp [Addr.add_lit]]
            exact cell_of_heap hEA j u (by simpa using hu)
          obtain ⟨v5, W5, hrun, hown5, hgrow, hnear⟩ := run_append_near (P := Tryz.prog) (w := WA) (w.heap.size + 2) 24 24 51 i0 _ 2 16 Tryz.underlying24 hi hz0 hz1 hz2 rfl (by decide) (.slice xa k xc) k (ecells (lstG b k)) (by have h := HIA.out.row; unfold Row at h; rw [lstG_length] at h; exact h) ⟨w7.heap.size, 0, none⟩ 1 1 [.int .i64 ep, .int .i64 el] rfl hsrc (by intro u hu; simp only [List.mem_cons, List.not_mem_nil, or_false] at hu; rcases hu with rfl | rfl <;> rfl) (by unfold maxLen; omega) (by omega) (by have := HIA.out.inn.lt; omega)
          refine wpAnyH_ready (rs := [7]) (by kernel_rfl) (by simp) ?_
          refine AllReadyH.cons (o := _) (by simp only [List.getElem?_toArray, List.getElem?_cons_succ, List.getElem?_cons_zero]; rfl) (fun K hK => ?_) AllReadyH.nil
          refine wpH_app2 (by rfl) rfl rfl rfl hrun ?_
          obtain ⟨a5, cap5, hv5, hm5⟩ := row_slice hown5
          subst hv5
          refine hK.out _ _ True.intro (fun hHeld => ?_)
          clear hK K
          simp only [Act.put, List.setIfInBounds_toArray, List.set_cons_zero, List.set_cons_succ]
          obtain ⟨hk1, hk2⟩ := HIA.out.push (e := ⟨ep, el⟩) (by rw [lstG_length]; exact hown5) hgrow hnear
          have HI5 : Hid (TI w (W5.setCell ⟨yb, 1, none⟩ (.slice a5 (k + 1) cap5)) yb vg (.slice a5 (k + 1) cap5) (lstG b (k + 1)) (b.extract i3 504)) := by rw [lstG_succ, HEX2.out]; exact hk1
          obtain ⟨n0, n1, n2, n3⟩ := agg2 hk2
          clear hk1 hk2 hown5 hgrow hnear hm5 hrun
          refine wpAnyH_take (i := 8) (oi := _) (v := _) (by simp only [List.getElem?_toArray, List.getElem?_cons_succ, List.getElem?_cons_zero]; rfl) (by kernel_rfl) (by kernel_rfl) (by kernel_rfl) (by exact fun _ _ _ h => h) (Or.inl ⟨by rfl, by intro w' hSw; (try dsimp only at hSw); first | (go_simp; done) | (go_simp; with_reducible rfl)⟩) hHeld ?_
          simp only [Act.put, List.setIfInBounds_toArray, List.set_cons_zero, List.set_cons_succ]
          refine wpAnyH_ready (rs := [9]) (by kernel_rfl) (by simp) ?_
          refine AllReadyH.cons rfl (fun K hK => ?_) AllReadyH.nil
          go_simp
          go_wp2_with fail
          refine hK.out _ _ True.intro (fun hHeld => ?_)
          clear hK K
          refine wpAnyH_done (by kernel_rfl) ?_ _
          go_wp2
          go_roundw
          case rel => exact ⟨k + 1, a5, cap5, by omega, by go_num, by rw [HI3.out] at HI5; exact HI5.out⟩
          case measure => simp [intOf]; omega
        · skip
          go_simp
          go_wp2_with fail
          refine (innum_any _ (w.heap.size + 1) _ 0 2 HT6d.out.inn).mono ?_
          rintro r w7 ⟨rfl, hi7, ho7⟩
          rw [HNB.out] at hi7 ⊢
          dsimp only at hi7 ⊢
          have HT7 : Hid (TI w w7 yb vg (.slice xa k xc) (lstG b k) (b.extract i3 504)) := HT6d.out.read ho7 hi7
          clear hi7 ho7
          obtain ⟨z0, z1, z2, z3⟩ := agg2 HT7.out.y
          refine hK.out _ _ True.intro (fun hHeld => ?_)
          clear hK K
          refine wpAnyH_take (i := 5) (oi := _) (v := _) (by simp only [List.getElem?_toArray, List.getElem?_cons_succ, List.getElem?_cons_zero]; rfl) (by kernel_rfl) (by kernel_rfl) (by kernel_rfl) (by exact fun _ _ _ h => h) (Or.inl ⟨by rfl, by intro w' hSw; (try dsimp only at hSw); first | (go_simp; done) | (go_simp; with_reducible rfl)⟩) hHeld ?_
          simp only [Act.put, List.setIfInBounds_toArray, List.set_cons_zero, List.set_cons_succ]
          refine wpAnyH_ready (rs := [1, 6]) (by kernel_rfl) (by simp) ?_
          refine (AllReadyH.cons rfl (fun K hK => ?_) (AllReadyH.cons rfl (fun K hK => ?_) AllReadyH.nil))
          · skip
            go_simp
            go_wp2_with fail
            refine hK.out _ _ True.intro (fun hHeld => ?_)
            clear hK K
            refine wpAnyH_ready (rs := [6]) (by kernel_rfl) (by simp) ?_
            refine AllReadyH.cons rfl (fun K hK => ?_) AllReadyH.nil
            go_simp
            go_wp2_with fail
            obtain ⟨WA, hWA⟩ : ∃ W, W = w7.alloc (Obj.cells #[.int .i64 ep, .int .i64 el] 51) := ⟨_, rfl⟩
            rw [← hWA]
            refine hK.out _ _ True.intro (fun hHeld => ?_)
            clear hK K
            have HIA : Hid (TI w WA yb vg (.slice xa k xc) (lstG b k) (b.extract i3 504)) := by rw [hWA]; exact HT7.out.alloc _
            have hEA : WA.heap[w7.heap.size]? = some (.cells #[.int .i64 ep, .int .i64 el] 51 (0, 0)) := by rw [hWA]; exact heap_alloc_new _ _
            obtain ⟨t0, t1, t2, t3⟩ := agg2 HIA.out.y
            clear hWA
            have hsrc : ∀ j u, [Value.int .i64 ep, Value.int .i64 el][j]? = some u → WA.cell? ((⟨w7.heap.size, 0, none⟩ : Addr).add j) = some u := fun j u hu => by
              rw [show (⟨w7.heap.size, 0, none⟩ : Addr).add j = ⟨w7.heap.size, j, none⟩ by simp [Addr.add_lit]]
              exact cell_of_heap hEA j u (by simpa using hu)
            obtain ⟨v5, W5, hrun, hown5, hgrow, hnear⟩ := run_append_near (P := Tryz.prog) (w := WA) (w.heap.size + 2) 24 24 51 i0 _ 2 16 Tryz.underlying24 hi hz0 hz1 hz2 rfl (by decide) (.slice xa k xc) k (ecells (lstG b k)) (by have h := HIA.out.row; unfold Row at h; rw [lstG_length] at h; exact h) ⟨w7.heap.size, 0, none⟩ 1 1 [.int .i64 ep, .int .i64 el] rfl hsrc (by intro u hu; simp only [List.mem_cons, List.not_mem_nil, or_false] at hu; rcases hu with rfl | rfl <;> rfl) (by unfold maxLen; omega) (by omega) (by have := HIA.out.inn.lt; omega)
            refine wpAnyH_ready (rs := [7]) (by kernel_rfl) (by simp) ?_
            refine AllReadyH.cons (o := _) (by simp only [List.getElem?_toArray, List.getElem?_cons_succ, List.getElem?_cons_zero]; rfl) (fun K hK => ?_) AllReadyH.nil
            refine wpH_app2 (by rfl) rfl rfl rfl hrun ?_
            obtain ⟨a5, cap5, hv5, hm5⟩ := row_slice hown5
            subst hv5
            refine hK.out _ _ True.intro (fun hHeld => ?_)
            clear hK K
            simp only [Act.put, List.setIfInBounds_toArray, List.set_cons_zero, List.set_cons_succ]
            obtain ⟨hk1, hk2⟩ := HIA.out.push (e := ⟨ep, el⟩) (by rw [lstG_length]; exact hown5) hgrow hnear
            have HI5 : Hid (TI w (W5.setCell ⟨yb, 1, none⟩ (.slice a5 (k + 1) cap5)) yb vg (.slice a5 (k + 1) cap5) (lstG b (k + 1)) (b.extract i3 504)) := by rw [lstG_succ, HEX2.out]; exact hk1
            obtain ⟨n0, n1, n2, n3⟩ := agg2 hk2
            clear hk1 hk2 hown5 hgrow hnear hm5 hrun
            refine wpAnyH_take (i := 8) (oi := _) (v := _) (by simp only [List.getElem?_toArray, List.getElem?_cons_succ, List.getElem?_cons_zero]; rfl) (by kernel_rfl) (by kernel_rfl) (by kernel_rfl) (by exact fun _ _ _ h => h) (Or.inl ⟨by rfl, by intro w' hSw; (try dsimp only at hSw); first | (go_simp; done) | (go_simp; with_reducible rfl)⟩) hHeld ?_
            simp only [Act.put, List.setIfInBounds_toArray, List.set_cons_zero, List.set_cons_succ]
            refine wpAnyH_ready (rs := [9]) (by kernel_rfl) (by simp) ?_
            refine AllReadyH.cons rfl (fun K hK => ?_) AllReadyH.nil
            go_simp
            go_wp2_with fail
            refine hK.out _ _ True.intro (fun hHeld => ?_)
            clear hK K
            refine wpAnyH_done (by kernel_rfl) ?_ _
            go_wp2
            go_roundw
            case rel => exact ⟨k + 1, a5, cap5, by omega, by go_num, by rw [HI3.out] at HI5; exact HI5.out⟩
            case measure => simp [intOf]; omega
          · skip
            go_simp
            go_wp2_with fail
            obtain ⟨WA, hWA⟩ : ∃ W, W = w7.alloc (Obj.cells #[.int .i64 ep, .int .i64 el] 51) := ⟨_, rfl⟩
            rw [← hWA]
            refine hK.out _ _ True.intro (fun hHeld => ?_)
            clear hK K
            have HIA : Hid (TI w WA yb vg (.slice xa k xc) (lstG b k) (b.extract i3 504)) := by rw [hWA]; exact HT7.out.alloc _
            have hEA : WA.heap[w7.heap.size]? = some (.cells #[.int .i64 ep, .int .i64 el] 51 (0, 0)) := by rw [hWA]; exact heap_alloc_new _ _
            obtain ⟨t0, t1, t2, t3⟩ := agg2 HIA.out.y
            clear hWA
            refine wpAnyH_ready (rs := [1]) (by kernel_rfl) (by simp) ?_
            refine AllReadyH.cons rfl (fun K hK => ?_) AllReadyH.nil
            go_simp
            go_wp2_with fail
            refine hK.out _ _ True.intro (fun hHeld => ?_)
            clear hK K
            have hsrc : ∀ j u, [Value.int .i64 ep, Value.int .i64 el][j]? = some u → WA.cell? ((⟨w7.heap.size, 0, none⟩ : Addr).add j) = some u := fun j u hu => by
              rw [show (⟨w7.heap.size, 0, none⟩ : Addr).add j = ⟨w7.heap.size, j, none⟩ by simp [Addr.add_lit]]
              exact cell_of_heap hEA j u (by simpa using hu)
            obtain ⟨v5, W5, hrun, hown5, hgrow, hnear⟩ := run_append_near (P := Tryz.prog) (w := WA) (w.heap.size + 2) 24 24 51 i0 _ 2 16 Tryz.underlying24 hi hz0 hz1 hz2 rfl (by decide) (.slice xa k xc) k (ecells (lstG b k)) (by have h := HIA.out.row; unfold Row at h; rw [lstG_length] at h; exact h) ⟨w7.heap.size, 0, none⟩ 1 1 [.int .i64 ep, .int .i64 el] rfl hsrc (by intro u hu; simp only [List.mem_cons, List.not_mem_nil, or_false] at hu; rcases hu with rfl | rfl <;> rfl) (by unfold maxLen; omega) (by omega) (by have := HIA.out.inn.lt; omega)
            refine wpAnyH_ready (rs := [7]) (by kernel_rfl) (by simp) ?_
            refine AllReadyH.cons (o := _) (by simp only [List.getElem?_toArray, List.getElem?_cons_succ, List.getElem?_cons_zero]; rfl) (fun K hK => ?_) AllReadyH.nil
            refine wpH_app2 (by rfl) rfl rfl rfl hrun ?_
            obtain ⟨a5, cap5, hv5, hm5⟩ := row_slice hown5
            subst hv5
            refine hK.out _ _ True.intro (fun hHeld => ?_)
            clear hK K
            simp only [Act.put, List.setIfInBounds_toArray, List.set_cons_zero, List.set_cons_succ]
            obtain ⟨hk1, hk2⟩ := HIA.out.push (e := ⟨ep, el⟩) (by rw [lstG_length]; exact hown5) hgrow hnear
            have HI5 : Hid (TI w (W5.setCell ⟨yb, 1, none⟩ (.slice a5 (k + 1) cap5)) yb vg (.slice a5 (k + 1) cap5) (lstG b (k + 1)) (b.extract i3 504)) := by rw [lstG_succ, HEX2.out]; exact hk1
            obtain ⟨n0, n1, n2, n3⟩ := agg2 hk2
            clear hk1 hk2 hown5 hgrow hnear hm5 hrun
            refine wpAnyH_take (i := 8) (oi := _) (v := _) (by simp only [List.getElem?_toArray, List.getElem?_cons_succ, List.getElem?_cons_zero]; rfl) (by kernel_rfl) (by kernel_rfl) (by kernel_rfl) (by exact fun _ _ _ h => h) (Or.inl ⟨by rfl, by intro w' hSw; (try dsimp only at hSw); first | (go_simp; done) | (go_simp; with_reducible rfl)⟩) hHeld ?_
            simp only [Act.put, List.setIfInBounds_toArray, List.set_cons_zero, List.set_cons_succ]
            refine wpAnyH_ready (rs := [9]) (by kernel_rfl) (by simp) ?_
            refine AllReadyH.cons rfl (fun K hK => ?_) AllReadyH.nil
            go_simp
            go_wp2_with fail
            refine hK.out _ _ True.intro (fun hHeld => ?_)
            clear hK K
            refine wpAnyH_done (by kernel_rfl) ?_ _
            go_wp2
            go_roundw
            case rel => exact ⟨k + 1, a5, cap5, by omega, by go_num, by rw [HI3.out] at HI5; exact HI5.out⟩
            case measure => simp [intOf]; omega
      · obtain rfl : k = cn := by omega
        have HNC : Hid (noughtsF (b.extract (7 + 4 * k) 504) 0 ((504 - (7 + 4 * k) : Nat) : Int) = (ByteArray.empty, if restG b (7 + 4 * k) then 0 else 4)) := nought_of b (7 + 4 * k) hb (by omega)
        obtain ⟨dn, hdn⟩ : ∃ d : Nat, d = 504 - (7 + 4 * k) := ⟨_, rfl⟩
        rw [← hdn] at HNC
        have hz4 : (b.extract (7 + 4 * k) 504).size ≤ 9223372036854775807 := by rw [ext_size b _ _ (by omega)]; omega
        have hdn' : (497 : Int) - (k : Int) * 2 * 2 = (dn : Int) := by omega
        have hN := noughts_any wr (w.heap.size + 1) (b.extract (7 + 4 * k) 504) 0 dn HTI.out.inn hz4
        rw [HNC.out] at hN
        clear hdn HNC hz4
        go_wp2_with fail
        refine hN.mono ?_
        rintro r w6 ⟨rfl, hi6, ho6⟩
        have hyg := HTI.out.yge
        have HI6 : Hid (InS w6 (w.heap.size + 1) ByteArray.empty (if restG b (7 + 4 * k) = true then 0 else 4)) := hi6
        have HB6 : Hid (Below w.heap.size w w6) := HTI.out.below.trans (ho6.below (by omega))
        have HR6 : Hid (w6.heap[w.heap.size]? = some (.cells #[.int .i64 0, .slice none 0 0] 26 (0, 0))) := (ho6.block _ (by omega)).trans HTI.out.res
        have HY6 : Hid (w6.heap[yb]? = some (.cells #[.int .i64 vg, .slice xa k xc] 26 (0, 0))) := (ho6.block _ (by omega)).trans HTI.out.y
        have HW6 : Hid (Row w6 (w.heap.size + 2) (.slice xa k xc) (lstG b k)) := row_keep HTI.out.row (fun g e => ho6.block _ (by have := row_ge HTI.out.row g e; omega))
        clear hi6 ho6 hN HTI
        have hE := Le.end_any w6 (w.heap.size + 1) _ _ HI6.out
        obtain ⟨r0, r1, f0, f1⟩ := agg2 HR6.out
        obtain ⟨y0, y1, g0, g1⟩ := agg2 HY6.out
        by_cases hz : restG b (7 + 4 * k) = true
        · rw [if_pos hz, show Le.errV (endF ByteArray.empty 0) = .nilIface from rfl] at hE
          have HGE : Hid (takeE b = 0) := by show _ = _; rw [HG.out, if_neg hbig, if_pos hz]
          clear HG hz HI6
          go_wp2_with fail
          refine hE.mono ?_
          rintro r w7 ⟨rfl, rfl⟩
          clear hE
          go_wp2
          refine bodyPost_ret (res_take _ w.heap.size _ vg xa k xc _ rfl rfl (set2_heap HR6.out _ _)) rfl ?_
          have HB7 := set2_below HB6.out w.heap.size (Nat.le_refl _) (.int .i64 vg) (.slice xa k xc)
          refine ⟨⟨vg, .slice xa k xc, by rw [HGE.out]; rfl, fun _ => ⟨HVG.out.symm, ?_⟩, fun h => absurd HGE.out h⟩, HB7⟩
          rw [HCN.out]
          refine row_base ?_ (Nat.le_add_right w.heap.size 2)
          exact row_keep HW6.out (fun g e => by have := row_ge HW6.out g e; rw [heap_setCell_other _ _ _ _ (by show g ≠ w.heap.size; omega), heap_setCell_other _ _ _ _ (by show g ≠ w.heap.size; omega)])
        · rw [if_neg hz, show Le.errV (endF ByteArray.empty 4) = .iface 57 (.int .i64 4) from rfl] at hE
          have HGE : Hid (takeE b = 4) := by show _ = _; rw [HG.out, if_neg hbig, if_neg hz]
          clear HG hz HI6
          go_wp2_with fail
          refine hE.mono ?_
          rintro r w7 ⟨rfl, rfl⟩
          clear hE
          go_wp2
          refine bodyPost_ret (res_take _ w.heap.size _ 0 none 0 0 _ rfl rfl (set2_heap HR6.out _ _)) rfl ?_
          exact ⟨⟨0, .slice none 0 0, by rw [HGE.out]; rfl, (fun h => by rw [HGE.out] at h; cases h), fun _ => ⟨rfl, rfl⟩⟩, set2_below HB6.out _ (Nat.le_refl _) _ _⟩

end Go.Proofs.YtkfphmhnaelflacGreatDoor.Id

namespace Go.Proofs.YtkfphmhnaelflacGreatDoor.Id
open Go.ChangeShapes Go.WideShapes Go.ChangeAt Go.RowKit Go.Proofs.Fa
open Go.Proofs.YtkfphmhnaelflacGreatDoor.Mk (NibAt openF openM_any)

variable {w : World}
set_option maxRecDepth 100000
set_option maxHeartbeats 4000000

theorem getE_take (b : ByteArray) (s : Int) : getE b s = if takeE b = 0 then (if rightB (verG b) (lstG b (cntG b)) s = true then 0 else 17) else 4 := by
  unfold getE takeE
  by_cases h1 : 36 < cntG b
  · rw [if_pos h1, if_pos h1, if_neg (by decide)]
  · rw [if_neg h1, if_neg h1]
    by_cases h2 : restG b (7 + 4 * cntG b) = true
    · rw [if_pos h2, if_pos h2, if_pos rfl]
    · rw [if_neg h2, if_neg h2, if_neg (by decide)]
theorem takeE_four (b : ByteArray) (h : takeE b ≠ 0) : takeE b = 4 := by
  unfold takeE at *
  by_cases h1 : 36 < cntG b
  · rw [if_pos h1]
  · rw [if_neg h1] at h ⊢
    by_cases h2 : restG b (7 + 4 * cntG b) = true
    · rw [if_pos h2] at h; exact absurd rfl h
    · rw [if_neg h2]
theorem cntG_take (b : ByteArray) (h : takeE b = 0) : cntG b ≤ 36 := by
  unfold takeE at h
  by_cases h1 : 36 < cntG b
  · rw [if_pos h1] at h; cases h
  · omega
theorem lstG_bd (b : ByteArray) (hb : b.size = 504) (n : Nat) (hn : n ≤ 36) : ∀ e ∈ lstG b n, 0 ≤ e.pos ∧ e.pos < 65536 ∧ 0 ≤ e.len ∧ e.len < 65536 := by
  intro e he
  unfold lstG at he
  rw [List.mem_map] at he
  obtain ⟨i, hi, rfl⟩ := he
  have := List.mem_range.1 hi
  exact extG_pos b i hb (by omega)

/-- What Get answers of a sound sector. -/
def GetAt (w : World) (b : ByteArray) (s : Int) (r : Ending) (w' : World) : Prop :=
  (∃ ver' v', r = .returned (.tuple #[ino ver' v', errV (getE b s)]) ∧ (getE b s = 0 → ver' = verG b ∧ Row w' w.heap.size v' (lstG b (cntG b))) ∧ (getE b s ≠ 0 → ver' = 0 ∧ v' = .slice none 0 0)) ∧ Below w.heap.size w w'

theorem res_get (tm : Array Value) (rb : Nat) (W : World) (ver : Int) (a : Option Addr) (n c : Nat) (er : Value) (h4 : tm[4]? = some (.pointer (some ⟨rb, 0, none⟩))) (h5 : tm.getD 5 undef = er) (h : W.heap[rb]? = some (.cells #[.int .i64 ver, .slice a n c] 26 (0, 0))) :
    (results Tryz.f12 tm).run Tryz.prog W = .ok (.tuple #[ino ver (.slice a n c), er]) W := by
  obtain ⟨c0, c1, _⟩ := agg2 h
  clear h
  subst h5
  simp [results, Tryz.f12, go_sem, h4, c0, c1, ino]

theorem get_err (sec : ByteArray) (s e : Int) (hn : NibAt w) (ho : (openF 6 sec).2 = e) (he : e ≠ 0) :
    Calls Tryz.prog 12 #[.string sec, .int .i64 s] w fun r w' => r = .returned (.tuple #[ino 0 (.slice none 0 0), errV e]) ∧ Below w.heap.size w w' := by
  obtain ⟨w0, hw0⟩ : ∃ w0, w0 = w.alloc (.cells #[.int .i64 0, .slice none 0 0] 26) := ⟨_, rfl⟩
  have HB0 : Hid (Below w.heap.size w w0) := by rw [hw0]; exact (Below.refl _ _).alloc (Nat.le_refl _) _
  have HR0 : Hid (w0.heap[w.heap.size]? = some (.cells #[.int .i64 0, .slice none 0 0] 26 (0, 0))) := by rw [hw0]; exact heap_alloc_new _ _
  have hO := openM_any 6 sec w0 (hn.below HB0.out)
  rw [ho, Mk.errV_pos he] at hO
  generalize (openF 6 sec).1 = bd at *
  have HE : Hid (errV e = .iface 57 (.int .i64 e)) := if_neg he
  clear ho he hn
  go_enter Tryz.func12, Tryz.ntmps12
  go_wp2_with fail
  rw [← hw0]
  refine hO.mono ?_
  rintro r w1 ⟨rfl, hb1⟩
  have HB1 : Hid (Below w.heap.size w w1) := HB0.out.trans (hb1.mono HB0.out.size)
  have HR1 : Hid (w1.heap[w.heap.size]? = some (.cells #[.int .i64 0, .slice none 0 0] 26 (0, 0))) := (hb1.block _ (lt_of_heap HR0.out)).trans HR0.out
  clear hb1 hO hw0 HB0 HR0
  obtain ⟨r0, r1, f0, f1⟩ := agg2 HR1.out
  go_wp2
  refine bodyPost_ret (res_get _ w.heap.size _ 0 none 0 0 _ rfl rfl (set2_heap HR1.out _ _)) rfl ?_
  exact ⟨by rw [HE.out]; rfl, set2_below HB1.out _ (Nat.le_refl _) _ _⟩

theorem get_any (sec b : ByteArray) (s : Int) (hn : NibAt w) (ho : openF 6 sec = (b, 0)) (hb : b.size = 504) :
    Calls Tryz.prog 12 #[.string sec, .int .i64 s] w fun r w' => GetAt w b s r w' := by
  obtain ⟨w0, hw0⟩ : ∃ w0, w0 = w.alloc (.cells #[.int .i64 0, .slice none 0 0] 26) := ⟨_, rfl⟩
  have HB0 : Hid (Below w.heap.size w w0) := by rw [hw0]; exact (Below.refl _ _).alloc (Nat.le_refl _) _
  have HR0 : Hid (w0.heap[w.heap.size]? = some (.cells #[.int .i64 0, .slice none 0 0] 26 (0, 0))) := by rw [hw0]; exact heap_alloc_new _ _
  have hO := openM_any 6 sec w0 (hn.below HB0.out)
  rw [ho, show Mk.errV ((b, (0 : Int)) : ByteArray × Int).2 = .nilIface from rfl] at hO
  dsimp only at hO
  clear ho hn
  have hT := fun w => take_any (w := w) b hb
  have HG : Hid (getE b s = if takeE b = 0 then (if rightB (verG b) (lstG b (cntG b)) s = true then 0 else 17) else 4) := getE_take b s
  have HE4 : Hid (takeE b ≠ 0 → takeE b = 4) := takeE_four b
  have hle := cntG_take b
  have hbd := lstG_bd b hb
  go_enter Tryz.func12, Tryz.ntmps12
  go_wp2_with fail
  rw [← hw0]
  refine hO.mono ?_
  rintro r w1 ⟨rfl, hb1⟩
  have HB1 : Hid (Below w.heap.size w w1) := HB0.out.trans (hb1.mono HB0.out.size)
  have HR1 : Hid (w1.heap[w.heap.size]? = some (.cells #[.int .i64 0, .slice none 0 0] 26 (0, 0))) := (hb1.block _ (lt_of_heap HR0.out)).trans HR0.out
  clear hb1 hO hw0 HB0 HR0
  go_wp2_with fail
  refine (hT _).mono ?_
  rintro r w2 ⟨⟨ver', v', rfl, hy, hn⟩, hb2⟩
  have HB2 : Hid (Below w.heap.size w w2) := HB1.out.trans (hb2.mono HB1.out.size)
  have HR2 : Hid (w2.heap[w.heap.size]? = some (.cells #[.int .i64 0, .slice none 0 0] 26 (0, 0))) := (hb2.block _ (lt_of_heap HR1.out)).trans HR1.out
  have hlt := lt_of_heap HR1.out
  clear hT hb2 HB1 HR1
  by_cases he : takeE b = 0
  · obtain ⟨rfl, hr⟩ := hy he
    have HG2 : Hid (getE b s = if rightB (verG b) (lstG b (cntG b)) s = true then 0 else 17) := by show _ = _; rw [HG.out, if_pos he]
    have hle := hle he
    rw [he, show errV 0 = .nilIface from rfl]
    have HW : Hid (Row w2 w1.heap.size v' (lstG b (cntG b))) := hr
    clear hy hn HG HE4 he hr
    obtain ⟨xa, xc, rfl, hm⟩ := row_slice HW.out
    have hlg := lstG_length b (cntG b)
    have HLE : Hid (cntG b ≤ 1000) := by show _ ≤ _; omega
    have HWF : Hid (∀ e ∈ lstG b (cntG b), -9223372036854775808 ≤ e.pos ∧ e.pos ≤ 9223372036854775807) := fun e he => by have := hbd (cntG b) hle e he; omega
    rw [hlg] at HW ⊢
    clear hlg hbd hle hm
    simp only [ino]
    have hr := right_any (w := w2.alloc (Obj.cells #[.int .i64 (verG b), .slice xa (cntG b) xc] 26)) (verG b) (.slice xa (cntG b) xc) (lstG b (cntG b)) s (World.ownsRow.alloc HW.out _) (by rw [lstG_length]; exact HLE.out) HWF.out
    simp only [ino] at hr
    have HB3 : Hid (Below w.heap.size w (w2.alloc (Obj.cells #[.int .i64 (verG b), .slice xa (cntG b) xc] 26))) := HB2.out.alloc HB2.out.size _
    have HR3 : Hid ((w2.alloc (Obj.cells #[.int .i64 (verG b), .slice xa (cntG b) xc] 26)).heap[w.heap.size]? = some (.cells #[.int .i64 0, .slice none 0 0] 26 (0, 0))) := (Below.heap_alloc _ _ _ (lt_of_heap HR2.out)).trans HR2.out
    have HY3 : Hid ((w2.alloc (Obj.cells #[.int .i64 (verG b), .slice xa (cntG b) xc] 26)).heap[w2.heap.size]? = some (.cells #[.int .i64 (verG b), .slice xa (cntG b) xc] 26 (0, 0))) := heap_alloc_new _ _
    have HW3 : Hid (Row (w2.alloc (Obj.cells #[.int .i64 (verG b), .slice xa (cntG b) xc] 26)) w1.heap.size (.slice xa (cntG b) xc) (lstG b (cntG b))) := World.ownsRow.alloc HW.out _
    obtain ⟨q, hq⟩ : ∃ q, rightB (verG b) (lstG b (cntG b)) s = q := ⟨_, rfl⟩
    rw [hq] at hr HG2
    clear hq HW HLE HWF
    go_wp2_with fail
    refine hr.mono ?_
    rintro r w4 ⟨rfl, hb4⟩
    have HB4 : Hid (Below w.heap.size w w4) := HB3.out.trans (hb4.mono HB3.out.size)
    have HR4 : Hid (w4.heap[w.heap.size]? = some (.cells #[.int .i64 0, .slice none 0 0] 26 (0, 0))) := (hb4.block _ (lt_of_heap HR3.out)).trans HR3.out
    have HY4 : Hid (w4.heap[w2.heap.size]? = some (.cells #[.int .i64 (verG b), .slice xa (cntG b) xc] 26 (0, 0))) := (hb4.block _ (lt_of_heap HY3.out)).trans HY3.out
    have HW4 : Hid (Row w4 w1.heap.size (.slice xa (cntG b) xc) (lstG b (cntG b))) := row_below HW3.out hb4 (Nat.le_refl _)
    clear hr hb4 HR3 HY3 HB3 HB2 HR2 HW3
    obtain ⟨r0, r1, f0, f1⟩ := agg2 HR4.out
    obtain ⟨y0, y1, _, _⟩ := agg2 HY4.out
    cases q with
    | true =>
      have HG3 : Hid (getE b s = 0) := by show _ = _; rw [HG2.out]; rfl
      clear HG2
      go_wp2
      refine bodyPost_ret (res_get _ w.heap.size _ (verG b) xa (cntG b) xc _ rfl rfl (set2_heap HR4.out _ _)) rfl ?_
      refine ⟨⟨verG b, .slice xa (cntG b) xc, by rw [HG3.out]; rfl, fun _ => ⟨rfl, ?_⟩, fun h => absurd HG3.out h⟩, set2_below HB4.out _ (Nat.le_refl _) _ _⟩
      refine row_base ?_ (Nat.le_of_lt hlt)
      exact row_keep HW4.out (fun g e => by have := row_ge HW4.out g e; rw [heap_setCell_other _ _ _ _ (by show g ≠ w.heap.size; omega), heap_setCell_other _ _ _ _ (by show g ≠ w.heap.size; omega)])
    | false =>
      have HG3 : Hid (getE b s = 17) := by show _ = _; rw [HG2.out]; rfl
      clear HG2
      go_wp2
      refine bodyPost_ret (res_get _ w.heap.size _ 0 none 0 0 _ rfl rfl (set2_heap HR4.out _ _)) rfl ?_
      exact ⟨⟨0, .slice none 0 0, by rw [HG3.out]; rfl, (fun h => by rw [HG3.out] at h; cases h), fun _ => ⟨rfl, rfl⟩⟩, set2_below HB4.out _ (Nat.le_refl _) _ _⟩
  · obtain ⟨rfl, rfl⟩ := hn he
    have HG2 : Hid (getE b s = 4) := by show _ = _; rw [HG.out, if_neg he]
    rw [HE4.out he, show errV 4 = .iface 57 (.int .i64 4) from rfl]
    clear hy hn HG HE4 he hle hbd
    simp only [ino]
    have HB3 : Hid (Below w.heap.size w (w2.alloc (Obj.cells #[.int .i64 0, .slice none 0 0] 26))) := HB2.out.alloc HB2.out.size _
    have HR3 : Hid ((w2.alloc (Obj.cells #[.int .i64 0, .slice none 0 0] 26)).heap[w.heap.size]? = some (.cells #[.int .i64 0, .slice none 0 0] 26 (0, 0))) := (Below.heap_alloc _ _ _ (lt_of_heap HR2.out)).trans HR2.out
    obtain ⟨r0, r1, f0, f1⟩ := agg2 HR3.out
    go_wp2
    refine bodyPost_ret (res_get _ w.heap.size _ 0 none 0 0 _ rfl rfl (set2_heap HR3.out _ _)) rfl ?_
    exact ⟨⟨0, .slice none 0 0, by rw [HG2.out]; rfl, (fun h => by rw [HG2.out] at h; cases h), fun _ => ⟨rfl, rfl⟩⟩, set2_below HB3.out _ (Nat.le_refl _) _ _⟩

end Go.Proofs.YtkfphmhnaelflacGreatDoor.Id

namespace Go.Proofs.YtkfphmhnaelflacGreatDoor.Id
open Go.ChangeShapes Go.WideShapes Go.ChangeAt Go.RowKit Go.Proofs.Fa
open Go.Proofs.YtkfphmhnaelflacGreatDoor.Le (putF getF leVal numF textF getF_putF putF_in)
open Go.Proofs.YtkfphmhnaelflacGreatDoor.Mk (ext_bytes extract_data padS)

theorem leVal_inj : ∀ (l m : List UInt8), l.length = m.length → leVal l = leVal m → l = m
  | [], [], _, _ => rfl
  | [], _ :: _, h, _ => by cases h
  | _ :: _, [], h, _ => by cases h
  | a :: l, c :: m, h, e => by
    simp only [leVal] at e
    have ha := a.toNat_lt
    have hc := c.toNat_lt
    have h1 : a.toNat = c.toNat := by omega
    have h2 : leVal l = leVal m := by omega
    rw [UInt8.toNat_inj.1 h1, leVal_inj l m (by simpa using h) h2]
theorem putF_getF (a : ByteArray) (k : Nat) (h1 : 1 ≤ k) (h7 : k ≤ 7) (ha : a.size = k) : putF (getF a) k = a := by
  obtain ⟨g0, g1⟩ := getF_lt a k ha h7
  obtain ⟨_, hz, hn⟩ := putF_in (x := getF a) (k := k) (by omega) (by omega) g0 (by rw [show (8 * (k : Int)).toNat = 8 * k by omega]; exact g1)
  have hg := getF_putF hn
  rw [Int.toNat_natCast] at hz
  rw [Le.getF_yes (b := putF (getF a) k) (by omega), Le.getF_yes (b := a) (by omega)] at hg
  have hgn : leVal (putF (getF a) k).data.toList = leVal a.data.toList := by
    rw [← Le.getF_yes (b := a) (by omega)] at hg
    have hh : (leVal (putF (getF a) k).data.toList : Int) = leVal a.data.toList := by rw [← Le.getF_yes (b := a) (by omega)]; exact hg
    exact_mod_cast hh
  exact ext_bytes (leVal_inj _ _ (by rw [len_of hz, len_of ha]) hgn)

/-- The bytes of extents. -/
def extB (l : List Ext) : List UInt8 := l.flatMap fun e => (putF e.pos 2).data.toList ++ (putF e.len 2).data.toList
theorem extB_append (l m : List Ext) : extB (l ++ m) = extB l ++ extB m := by simp [extB]
/-- The bytes of an inode, its first extents alone. -/
def bytI (ver : Int) (l : List Ext) (k : Nat) : List UInt8 := (putF ver 6).data.toList ++ ((putF l.length 1).data.toList ++ extB (l.take k))
def partI (ver : Int) (l : List Ext) (k : Nat) : ByteArray := ⟨(bytI ver l k).toArray⟩
def bodyI (ver : Int) (l : List Ext) : ByteArray := partI ver l l.length

theorem bytI_zero (ver : Int) (l : List Ext) : bytI ver l 0 = (putF ver 6).data.toList ++ (putF l.length 1).data.toList := by
  unfold bytI extB; simp
theorem bytI_succ (ver : Int) (l : List Ext) (k : Nat) (hk : k < l.length) : bytI ver l (k + 1) = bytI ver l k ++ (putF l[k].pos 2).data.toList ++ (putF l[k].len 2).data.toList := by
  unfold bytI
  rw [List.take_succ_eq_append_getElem hk, extB_append]
  simp [extB]
theorem partI_data (ver : Int) (l : List Ext) (k : Nat) : (partI ver l k).data.toList = bytI ver l k := by simp [partI]
theorem partI_zero (ver : Int) (l : List Ext) : putF ver 6 ++ putF l.length 1 = partI ver l 0 := by
  apply ext_bytes
  rw [partI_data, bytI_zero, ByteArray.data_append, Array.toList_append]
theorem partI_succ (ver : Int) (l : List Ext) (k : Nat) (hk : k < l.length) : partI ver l k ++ (putF l[k].pos 2 ++ putF l[k].len 2) = partI ver l (k + 1) := by
  apply ext_bytes
  rw [partI_data, bytI_succ ver l k hk, ByteArray.data_append, Array.toList_append, ByteArray.data_append, Array.toList_append, partI_data, List.append_assoc]

/-- A number that fits goes behind what there is. -/
theorem numF_in (xs : List UInt8) (n : Int) (k : Nat) (h1 : 1 ≤ k) (h7 : k ≤ 7) (h0 : 0 ≤ n) (h : n < 2 ^ (8 * k)) : numF (some xs) n k = some (xs ++ (putF n k).data.toList) ∧ (putF n k).data.toList.length = k := by
  obtain ⟨_, hz, hn⟩ := putF_in (x := n) (k := k) (by omega) (by omega) h0 (by rw [show (8 * (k : Int)).toNat = 8 * k by omega]; exact h)
  rw [Int.toNat_natCast] at hz
  refine ⟨?_, len_of hz⟩
  unfold numF
  rw [if_neg hn]
  show (if ((putF n k).size : Int) ≤ k then some (xs ++ (putF n k).data.toList ++ List.replicate ((k : Int) - (putF n k).size).toNat 0) else none) = _
  rw [hz, if_pos (by omega), Int.sub_self]
  simp

theorem right_parts {ver : Int} {l : List Ext} {s : Int} (h : rightB ver l s = true) : 0 ≤ ver ∧ ver < 281474976710656 ∧ l.length ≤ 36 ∧ OkL l := by
  unfold rightB at h
  simp only [Bool.and_eq_true, decide_eq_true_eq] at h
  obtain ⟨h1, h2, h3, h4, h5, h6⟩ := h
  refine ⟨h3, h4, h5, ?_⟩
  have := fitB_ok h6 h2 (Nat.le_refl _)
  rw [List.take_length] at this
  exact this
theorem extB_length {l : List Ext} (h : OkL l) : (extB l).length = 4 * l.length := by
  induction l with
  | nil => rfl
  | cons e r ih =>
    have he := h e (List.mem_cons_self ..)
    unfold Ok at he
    have h1 := (numF_in [] e.pos 2 (by decide) (by decide) he.1 (by show e.pos < 65536; omega)).2
    have h2 := (numF_in [] e.len 2 (by decide) (by decide) (by omega) (by show e.len < 65536; omega)).2
    have ih' := ih (fun x hx => h x (List.mem_cons_of_mem _ hx))
    rw [show e :: r = [e] ++ r from rfl, extB_append, List.length_append, ih', List.length_append]
    have : (extB [e]).length = 4 := by
      simp only [extB, List.flatMap_cons, List.flatMap_nil, List.append_nil, List.length_append]
      exact (congr (congrArg HAdd.hAdd h1) h2)
    rw [this]
    simp only [List.length_cons, List.length_nil]
    omega
theorem bytI_length {ver : Int} {l : List Ext} (h0 : 0 ≤ ver) (h1 : ver < 281474976710656) (hl : l.length ≤ 36) (ho : OkL l) (k : Nat) (hk : k ≤ l.length) : (bytI ver l k).length = 7 + 4 * k := by
  have a1 := (numF_in [] ver 6 (by decide) (by decide) h0 (by show ver < 281474976710656; omega)).2
  have a2 := (numF_in [] l.length 1 (by decide) (by decide) (by omega) (by show (l.length : Int) < 256; omega)).2
  have a3 := extB_length (l := l.take k) (fun e he => ho e (List.mem_of_mem_take he))
  rw [List.length_take, Nat.min_eq_left hk] at a3
  unfold bytI
  rw [List.length_append, List.length_append, a3]
  have : ((putF ver 6).data.toList).length = 6 := a1
  have : ((putF l.length 1).data.toList).length = 1 := a2
  omega
theorem bodyI_size {ver : Int} {l : List Ext} {s : Int} (h : rightB ver l s = true) : (bodyI ver l).size ≤ 504 := by
  obtain ⟨h0, h1, h2, h3⟩ := right_parts h
  have := bytI_length h0 h1 h2 h3 l.length (Nat.le_refl _)
  have hs : (bodyI ver l).size = (bytI ver l l.length).length := by simp [bodyI, partI, ByteArray.size]
  omega

/-- What is right for a device is right for the greatest one. -/
theorem right_more {ver : Int} {l : List Ext} {s : Int} (h : rightB ver l s = true) : rightB ver l 2048 = true := by
  unfold rightB at *
  simp only [Bool.and_eq_true, decide_eq_true_eq] at *
  obtain ⟨h1, h2, h3, h4, h5, h6⟩ := h
  refine ⟨by decide, by decide, h3, h4, h5, ?_⟩
  unfold fitB at *
  rw [List.all_eq_true] at *
  intro i hi
  have := h6 i hi
  cases hli : l[i]? with
  | none => rfl
  | some e =>
    rw [hli] at this
    simp only [Bool.and_eq_true] at this ⊢
    refine ⟨?_, this.2⟩
    have h7 := this.1
    unfold belowF at h7 ⊢
    simp only [Bool.and_eq_true, decide_eq_true_eq] at h7 ⊢
    omega

theorem extB_of (b : ByteArray) (hb : b.size = 504) (n : Nat) (hn : n ≤ 36) : extB (lstG b n) = (b.data.toList.drop 7).take (4 * n) := by
  induction n with
  | zero => rfl
  | succ n ih =>
    rw [lstG_succ, extB_append, ih (by omega), show 4 * (n + 1) = 4 * n + 4 by omega, List.take_add, List.drop_drop]
    congr 1
    have e1 : putF (extG b n).pos 2 = b.extract (7 + 4 * n) (9 + 4 * n) := putF_getF _ 2 (by decide) (by decide) (by rw [ext_size b _ _ (by omega)]; omega)
    have e2 : putF (extG b n).len 2 = b.extract (9 + 4 * n) (11 + 4 * n) := putF_getF _ 2 (by decide) (by decide) (by rw [ext_size b _ _ (by omega)]; omega)
    simp only [extB, List.flatMap_cons, List.flatMap_nil, List.append_nil]
    have e4 : ∀ X : List UInt8, X.take 4 = X.take 2 ++ (X.drop 2).take 2 := fun X => List.take_add (l := X) (i := 2) (j := 2)
    rw [e1, e2, extract_data, extract_data, show 9 + 4 * n - (7 + 4 * n) = 2 by omega, show 11 + 4 * n - (9 + 4 * n) = 2 by omega, e4, List.drop_drop, show 7 + 4 * n + 2 = 9 + 4 * n by omega]
/-- A body that is read as an inode is that inode's bytes. -/
theorem body_back (b : ByteArray) (hb : b.size = 504) (hn : cntG b ≤ 36) (hr : restG b (7 + 4 * cntG b) = true) : padS (bodyI (verG b) (lstG b (cntG b))) = b := by
  have hl := len_of hb
  have e1 : putF (verG b) 6 = b.extract 0 6 := putF_getF _ 6 (by decide) (by decide) (by rw [ext_size b _ _ (by omega)])
  have e2 : putF (cntG b : Int) 1 = b.extract 6 7 := by
    rw [← cntG_get b hb]
    exact putF_getF _ 1 (by decide) (by decide) (by rw [ext_size b _ _ (by omega)])
  have hbytes : bytI (verG b) (lstG b (cntG b)) (lstG b (cntG b)).length = b.data.toList.take (7 + 4 * cntG b) := by
    unfold bytI
    rw [List.take_length, extB_of b hb _ hn, lstG_length, e1, e2, extract_data, extract_data, List.drop_zero]
    rw [show 7 + 4 * cntG b = 6 + (1 + 4 * cntG b) by omega, List.take_add, List.take_add, List.drop_drop]
  have hsz : (bodyI (verG b) (lstG b (cntG b))).size = 7 + 4 * cntG b := by
    have : (bodyI (verG b) (lstG b (cntG b))).size = (bytI (verG b) (lstG b (cntG b)) (lstG b (cntG b)).length).length := by simp [bodyI, partI, ByteArray.size]
    rw [this, hbytes, List.length_take, hl]
    omega
  apply ext_bytes
  show (List.toArray _).toList = _
  rw [List.toList_toArray, hsz]
  show (List.toArray _).toList ++ _ = _
  rw [List.toList_toArray, hbytes]
  have hd : b.data.toList.drop (7 + 4 * cntG b) = List.replicate (504 - (7 + 4 * cntG b)) 0 := by
    rw [List.eq_replicate_iff]; refine ⟨?_, ?_⟩
    · rw [List.length_drop, hl]
    · unfold restG at hr
      rw [List.all_eq_true] at hr
      intro x hx
      have := hr x hx
      simpa using this
  rw [← hd, List.take_append_drop]

end Go.Proofs.YtkfphmhnaelflacGreatDoor.Id

namespace Go.Proofs.YtkfphmhnaelflacGreatDoor.Id
open Go.ChangeShapes Go.WideShapes Go.ChangeAt Go.RowKit Go.Proofs.Fa
open Go.Proofs.YtkfphmhnaelflacGreatDoor.Le (putF numF OutS num_any num_any4 string_some)
open Go.Proofs.YtkfphmhnaelflacGreatDoor.Mk (NibAt sealS seal_yes)

variable {w : World} {B : Nat}
set_option maxRecDepth 100000
set_option maxHeartbeats 4000000

theorem out_alloc {w : World} {b : Nat} {xs : List UInt8} (h : OutS w b (some xs)) (o : Obj) : OutS (w.alloc o) b (some xs) := by
  obtain ⟨v, hh, hr⟩ := h
  exact ⟨v, (Below.heap_alloc _ _ _ (lt_of_heap hh)).trans hh, World.ownsRow.alloc hr o⟩
theorem out_apart {w : World} {b : Nat} {xs : List UInt8} (h : OutS w b (some xs)) (o : Obj) : Le.Apart (w.alloc o) b w.heap.size := by
  obtain ⟨v, hh, hr⟩ := h
  have hlt := lt_of_heap hh
  refine ⟨by omega, fun v' l' h' => ?_⟩
  rw [(Below.heap_alloc w o b hlt).trans hh] at h'
  cases h'
  intro e
  have := row_lt hr _ e
  omega

theorem put_no (ver : Int) (v : Value) (l : List Ext) (hr : Row w B v l) (hn : l.length ≤ 1000) (hwf : ∀ e ∈ l, -9223372036854775808 ≤ e.pos ∧ e.pos ≤ 9223372036854775807) (hp : rightB ver l 2048 = false) :
    Calls Tryz.prog 7 #[ino ver v] w fun r w' => r = .returned (.tuple #[.string ByteArray.empty, errV 1]) ∧ Below w.heap.size w w' := by
  obtain ⟨a, cap, rfl, hmx⟩ := row_slice hr
  have hri := right_any (w := w.alloc (Obj.cells #[.int .i64 ver, .slice a l.length cap] 26)) ver (.slice a l.length cap) l 2048 (World.ownsRow.alloc hr _) hn hwf
  have HB0 : Hid (Below w.heap.size w (w.alloc (Obj.cells #[.int .i64 ver, .slice a l.length cap] 26))) := (Below.refl _ _).alloc (Nat.le_refl _) _
  rw [hp] at hri
  simp only [ino] at hri ⊢
  generalize l.length = n at *
  clear hp hwf hr hn hmx
  go_enter Tryz.func7, Tryz.ntmps7
  go_wp2_with fail
  refine hri.mono ?_
  rintro r w1 ⟨rfl, hb1⟩
  have HB1 : Hid (Below w.heap.size w w1) := HB0.out.trans (hb1.mono HB0.out.size)
  clear hb1 hri
  go_wp2
  go_ret2
  exact ⟨rfl, HB1.out⟩

theorem put_yes (ver : Int) (v : Value) (l : List Ext) (hr : Row w B v l) (hwf : ∀ e ∈ l, -9223372036854775808 ≤ e.pos ∧ e.pos ≤ 9223372036854775807) (hp : rightB ver l 2048 = true) (hn : NibAt w) :
    Calls Tryz.prog 7 #[ino ver v] w fun r w' => r = .returned (.tuple #[.string (sealS 6 (bodyI ver l)), .nilIface]) ∧ Below w.heap.size w w' := by
  obtain ⟨h0, h1, h36, hok⟩ := right_parts hp
  have hbz := bodyI_size hp
  obtain ⟨n, hln⟩ : ∃ n, l.length = n := ⟨_, rfl⟩
  obtain ⟨a, cap, rfl, hmx⟩ := row_slice hr
  have hri := right_any (w := w.alloc (Obj.cells #[.int .i64 ver, .slice a l.length cap] 26)) ver (.slice a l.length cap) l 2048 (World.ownsRow.alloc hr _) (by omega) hwf
  rw [hp] at hri
  rw [hln] at hri hmx ⊢
  rw [hln] at hr
  simp only [ino] at hri ⊢
  have HR : Hid (Row w B (.slice a n cap) l) := hr
  have HN : Hid (NibAt w) := hn
  have HOK : Hid (OkL l) := hok
  have HLN : Hid (l.length = n) := hln
  have HBB : Hid (bodyI ver l = ⟨(bytI ver l n).toArray⟩) := by show _ = _; rw [← hln]; rfl
  have HLEN : Hid (∀ k, k ≤ n → (bytI ver l k).length = 7 + 4 * k) := fun k hk => bytI_length h0 h1 h36 hok k (by omega)
  have HF1 : Hid (numF (some []) ver 6 = some (putF ver 6).data.toList ∧ (putF ver 6).data.toList.length = 6) := numF_in [] ver 6 (by decide) (by decide) h0 (by show ver < 281474976710656; omega)
  have HF2 : Hid (numF (some (putF ver 6).data.toList) n 1 = some (bytI ver l 0)) := by
    have h := (numF_in (putF ver 6).data.toList n 1 (by decide) (by decide) (by omega) (by show (n : Int) < 256; omega)).1
    rw [bytI_zero, hln]
    exact h
  have HB0 : Hid (Below w.heap.size w (w.alloc (Obj.cells #[.int .i64 ver, .slice a n cap] 26))) := (Below.refl _ _).alloc (Nat.le_refl _) _
  have HX0 : Hid ((w.alloc (Obj.cells #[.int .i64 ver, .slice a n cap] 26)).heap[w.heap.size]? = some (.cells #[.int .i64 ver, .slice a n cap] 26 (0, 0))) := heap_alloc_new _ _
  clear hp hwf hr hn hok hln h0 h1
  go_enter Tryz.func7, Tryz.ntmps7
  go_wp2_with fail
  refine hri.mono ?_
  rintro r w1 ⟨rfl, hb1⟩
  have HB1 : Hid (Below w.heap.size w w1) := HB0.out.trans (hb1.mono HB0.out.size)
  have HX1 : Hid (w1.heap[w.heap.size]? = some (.cells #[.int .i64 ver, .slice a n cap] 26 (0, 0))) := (hb1.block _ (lt_of_heap HX0.out)).trans HX0.out
  clear hb1 hri HB0 HX0
  obtain ⟨c0, c1, _, _⟩ := agg2 HX1.out
  obtain ⟨W, hW⟩ : ∃ W, W = w1.alloc (.cells #[.slice none 0 0, .bool false] 60) := ⟨_, rfl⟩
  have HBW : Hid (Below w.heap.size w W) := by rw [hW]; exact HB1.out.alloc HB1.out.size _
  have HXW : Hid (W.heap[w.heap.size]? = some (.cells #[.int .i64 ver, .slice a n cap] 26 (0, 0))) := by rw [hW]; exact (Below.heap_alloc _ _ _ (lt_of_heap HX1.out)).trans HX1.out
  have HOW : Hid (OutS W w1.heap.size (some [])) := by
    rw [hW]
    exact ⟨.slice none 0 0, heap_alloc_new _ _, World.ownsRow_nil _ _ _ _⟩
  have hlt := lt_of_heap HX1.out
  go_wp2_with fail
  rw [← hW]
  clear hW HB1 HX1 c0 c1
  generalize w1.heap.size = ob at *
  refine (num_any W ob (some []) ver 6 HOW.out (fun xs h => by cases h; show (6 : Int) ≤ 2147483647 - 0; omega)).mono ?_
  rintro r w2 ⟨rfl, ho2, hb2⟩
  rw [HF1.out.1] at ho2
  have HO2 : Hid (OutS w2 ob (some (putF ver 6).data.toList)) := ho2
  have HB2 : Hid (Below w.heap.size w w2) := HBW.out.trans (hb2.mono (Nat.le_of_lt hlt))
  have HX2 : Hid (w2.heap[w.heap.size]? = some (.cells #[.int .i64 ver, .slice a n cap] 26 (0, 0))) := (hb2.block _ hlt).trans HXW.out
  clear ho2 hb2 HBW HXW HOW
  obtain ⟨c0, c1, _, _⟩ := agg2 HX2.out
  go_wp2_with fail
  refine (num_any w2 ob (some (putF ver 6).data.toList) n 1 HO2.out (fun xs h => by cases h; rw [HF1.out.2]; omega)).mono ?_
  rintro r w3 ⟨rfl, ho3, hb3⟩
  rw [HF2.out] at ho3
  have HO3 : Hid (OutS w3 ob (some (bytI ver l 0))) := ho3
  have HB3 : Hid (Below w.heap.size w w3) := HB2.out.trans (hb3.mono (Nat.le_of_lt hlt))
  have HX3 : Hid (w3.heap[w.heap.size]? = some (.cells #[.int .i64 ver, .slice a n cap] 26 (0, 0))) := (hb3.block _ hlt).trans HX2.out
  clear ho3 hb3 HB2 HX2 HO2 HF1 HF2 c0 c1
  obtain ⟨c0, c1, _, _⟩ := agg2 HX3.out
  go_wp2_with fail
  go_loopw [23] (fun i wr => ∃ k : Nat, k ≤ n ∧ i = .int .i64 k ∧ OutS wr ob (some (bytI ver l k)) ∧ Below w.heap.size w wr) (fun i _ => n - (intOf i).toNat)
  case atStart => exact ⟨0, Nat.zero_le _, rfl, HO3.out, HB3.out⟩
  case round =>
    clear HX3 HB3 HO3 c0 c1
    obtain ⟨k, hk, rfl, hO, hB'⟩ := hrel
    have HO : Hid (OutS wr ob (some (bytI ver l k))) := hO
    have HB : Hid (Below w.heap.size w wr) := hB'
    clear hO hB'
    by_cases hlt2 : k < n
    · have hRk : Row wr B _ l := row_below HR.out HB.out (Nat.le_refl _)
      obtain ⟨g, cap', he⟩ := row_some hRk (by rw [HLN.out]; omega)
      rw [HLN.out] at he
      cases he
      have hkl : k < l.length := by rw [HLN.out]; exact hlt2
      obtain ⟨e0, e1⟩ := hRk.ext k hkl
      have hcap : n ≤ cap ∧ cap ≤ maxLen := by
        rcases hRk.2 with ⟨hx, _⟩ | ⟨g', cap', cur, hx, _, _, h6, h7, _⟩
        · cases hx
        · cases hx; rw [HLN.out] at h6; omega
      have hkc : (k : Int) ≤ cap := by omega
      have hok := HOK.out _ (List.getElem_mem hkl)
      have hlk := HLEN.out k hk
      have HSU : Hid (bytI ver l (k + 1) = bytI ver l k ++ (putF l[k].pos 2).data.toList ++ (putF l[k].len 2).data.toList) := bytI_succ ver l k hkl
      clear hRk
      generalize l[k] = y at *
      obtain ⟨yp, yl⟩ := y
      unfold Ok at hok
      dsimp only at e0 e1 hok HSU
      have HFA := numF_in (bytI ver l k) yp 2 (by decide) (by decide) hok.1 (by show yp < 65536; omega)
      have HFB : Hid (numF (some (bytI ver l k ++ (putF yp 2).data.toList)) yl 2 = some (bytI ver l (k + 1))) := by
        show _ = _
        rw [HSU.out]
        exact (numF_in _ yl 2 (by decide) (by decide) (by omega) (by show yl < 65536; omega)).1
      have HFA1 : Hid (numF (some (bytI ver l k)) yp 2 = some (bytI ver l k ++ (putF yp 2).data.toList)) := HFA.1
      have HLA : Hid ((bytI ver l k ++ (putF yp 2).data.toList).length = 9 + 4 * k) := by
        show _ = _
        rw [List.length_append, hlk]
        have : ((putF yp 2).data.toList).length = 2 := HFA.2
        omega
      clear HFA HSU
      obtain ⟨wa, hwa⟩ : ∃ wa, wa = wr.alloc (Obj.cells #[.int .i64 yp, .int .i64 yl] 51) := ⟨_, rfl⟩
      have HYA : Hid (wa.heap[wr.heap.size]? = some (.cells #[.int .i64 yp, .int .i64 yl] 51 (0, 0))) := by rw [hwa]; exact heap_alloc_new _ _
      have HBA : Hid (Below w.heap.size w wa) := by rw [hwa]; exact HB.out.alloc HB.out.size _
      have HOA : Hid (OutS wa ob (some (bytI ver l k))) := by rw [hwa]; exact out_alloc HO.out _
      have HAP : Hid (Le.Apart wa ob wr.heap.size) := by rw [hwa]; exact out_apart HO.out _
      obtain ⟨y0, y1, _, _⟩ := agg2 HYA.out
      go_wp2_with fail
      rw [← hwa]
      clear hwa HO HB
      refine (num_any4 wa ob (some (bytI ver l k)) yp 2 HOA.out (fun xs h => by cases h; rw [hlk]; omega)).mono ?_
      rintro r w4 ⟨rfl, ho4, hb4, hf4⟩
      rw [HFA1.out] at ho4
      have HO4 : Hid (OutS w4 ob (some (bytI ver l k ++ (putF yp 2).data.toList))) := ho4
      have HB4 : Hid (Below w.heap.size w w4) := HBA.out.trans (hb4.mono (Nat.le_of_lt hlt))
      have hY4 : w4.heap[wr.heap.size]? = some (.cells #[.int .i64 yp, .int .i64 yl] 51 (0, 0)) := (hf4 _ (lt_of_heap HYA.out) HAP.out).1.trans HYA.out
      obtain ⟨z0, z1, _, _⟩ := agg2 hY4
      clear ho4 hb4 hf4 hY4 HOA HBA HYA HAP y0 y1 e0 e1
      go_wp2_with fail
      refine (num_any w4 ob _ yl 2 HO4.out (fun xs h => by cases h; rw [HLA.out]; omega)).mono ?_
      rintro r w5 ⟨rfl, ho5, hb5⟩
      rw [HFB.out] at ho5
      have HB5 : Hid (Below w.heap.size w w5) := HB4.out.trans (hb5.mono (Nat.le_of_lt hlt))
      have HO5 : Hid (OutS w5 ob (some (bytI ver l (k + 1)))) := ho5
      clear ho5 hb5 z0 z1
      go_wp2
      go_roundw
      case rel => exact ⟨k + 1, by omega, by go_num, HO5.out, HB5.out⟩
      case measure => simp [intOf]; omega
    · obtain rfl : k = n := by omega
      have hst := string_some wr ob (bytI ver l k) HO.out
      rw [← HBB.out] at hst
      go_wp2_with fail
      refine hst.mono ?_
      rintro r w6 ⟨rfl, rfl⟩
      go_wp2_with fail
      refine (seal_yes 6 (bodyI ver l) _ (by decide) (by decide) hbz (HN.out.below HB.out)).mono ?_
      rintro r w7 ⟨rfl, hb7⟩
      have HB7 : Hid (Below w.heap.size w w7) := HB.out.trans (hb7.mono HB.out.size)
      clear hb7
      go_wp2
      go_ret2
      exact ⟨rfl, HB7.out⟩

end Go.Proofs.YtkfphmhnaelflacGreatDoor.Id

namespace Go.Proofs.YtkfphmhnaelflacGreatDoor.Id
open Go.ChangeShapes Go.WideShapes Go.ChangeAt Go.RowKit Go.Proofs.Fa
open Go.Proofs.YtkfphmhnaelflacGreatDoor.Le (putF refput_any)
open Go.Proofs.YtkfphmhnaelflacGreatDoor.Mk (sealS sealF refseal_any)

variable {w : World} {B : Nat}
set_option maxRecDepth 100000
set_option maxHeartbeats 4000000

theorem putR_no (ver : Int) (v : Value) (l : List Ext) (hr : RowR w B v l) (hn : l.length ≤ 1000) (hp : rightB ver l 2048 = false) :
    Calls Tryz.prog 8 #[ino ver v] w fun r w' => r = .returned (.tuple #[.string ByteArray.empty, .int .i64 1]) ∧ Below w.heap.size w w' := by
  obtain ⟨a, cap, rfl, hmx⟩ := row_slice hr
  have hri := refrightX_any (w := w.alloc (Obj.cells #[.int .i64 ver, .slice a l.length cap] 29)) ver (.slice a l.length cap) l 2048 (World.ownsRow.alloc hr _) hn
  have HB0 : Hid (Below w.heap.size w (w.alloc (Obj.cells #[.int .i64 ver, .slice a l.length cap] 29))) := (Below.refl _ _).alloc (Nat.le_refl _) _
  rw [hp] at hri
  simp only [ino] at hri ⊢
  generalize l.length = n at *
  clear hp hr hn hmx
  go_enter Tryz.func8, Tryz.ntmps8
  go_wp2_with fail
  refine hri.mono ?_
  rintro r w1 ⟨rfl, hb1⟩
  have HB1 : Hid (Below w.heap.size w w1) := HB0.out.trans (hb1.mono HB0.out.size)
  clear hb1 hri
  go_wp2
  go_ret2
  exact ⟨rfl, HB1.out⟩

theorem putR_yes (ver : Int) (v : Value) (l : List Ext) (hr : RowR w B v l) (hp : rightB ver l 2048 = true) :
    Calls Tryz.prog 8 #[ino ver v] w fun r w' => r = .returned (.tuple #[.string (sealS 6 (bodyI ver l)), .int .i64 0]) ∧ Below w.heap.size w w' := by
  obtain ⟨h0, h1, h36, hok⟩ := right_parts hp
  have hbz := bodyI_size hp
  obtain ⟨n, hln⟩ : ∃ n, l.length = n := ⟨_, rfl⟩
  obtain ⟨a, cap, rfl, hmx⟩ := row_slice hr
  have hri := refrightX_any (w := w.alloc (Obj.cells #[.int .i64 ver, .slice a l.length cap] 29)) ver (.slice a l.length cap) l 2048 (World.ownsRow.alloc hr _) (by omega)
  rw [hp] at hri
  rw [hln] at hri hmx ⊢
  rw [hln] at hr
  simp only [ino] at hri ⊢
  have HR : Hid (RowR w B (.slice a n cap) l) := hr
  have HOK : Hid (OkL l) := hok
  have HLN : Hid (l.length = n) := hln
  have HBB : Hid (bodyI ver l = partI ver l n) := by show _ = _; rw [← hln]; rfl
  have HPZ : Hid (∀ k, k ≤ n → (partI ver l k).size ≤ 504) := fun k hk => by
    have h := bytI_length h0 h1 h36 hok k (by omega)
    have hs : (partI ver l k).size = (bytI ver l k).length := by simp [partI, ByteArray.size]
    omega
  have HF2 : Hid (putF ver 6 ++ putF n 1 = partI ver l 0) := by show _ = _; rw [← partI_zero, hln]
  have hp1 := fun w => refput_any ver 6 w (by omega)
  have hp2 := fun w => refput_any n 1 w (by omega)
  have hq1 : (putF ver 6).size = 6 := by
    have := (numF_in [] ver 6 (by decide) (by decide) h0 (by show ver < 281474976710656; omega)).2
    simpa using this
  have hq2 : (putF n 1).size = 1 := by
    have := (numF_in [] n 1 (by decide) (by decide) (by omega) (by show (n : Int) < 256; omega)).2
    simpa using this
  have HSL : Hid (∀ w, Calls Tryz.prog 15 #[.int .i64 6, .string (bodyI ver l)] w fun e w' => e = .returned (.tuple #[.string (sealS 6 (bodyI ver l)), .int .i64 0]) ∧ Below w.heap.size w w') := fun w => by
    have h := refseal_any 6 (bodyI ver l) w (by unfold maxLen; omega)
    unfold sealF at h
    rw [if_pos (by decide), if_pos hbz] at h
    exact h
  have HB0 : Hid (Below w.heap.size w (w.alloc (Obj.cells #[.int .i64 ver, .slice a n cap] 29))) := (Below.refl _ _).alloc (Nat.le_refl _) _
  have HX0 : Hid ((w.alloc (Obj.cells #[.int .i64 ver, .slice a n cap] 29)).heap[w.heap.size]? = some (.cells #[.int .i64 ver, .slice a n cap] 29 (0, 0))) := heap_alloc_new _ _
  clear hp hr hok hln h0 h1
  go_enter Tryz.func8, Tryz.ntmps8
  go_wp2_with fail
  refine hri.mono ?_
  rintro r w1 ⟨rfl, hb1⟩
  have HB1 : Hid (Below w.heap.size w w1) := HB0.out.trans (hb1.mono HB0.out.size)
  have HX1 : Hid (w1.heap[w.heap.size]? = some (.cells #[.int .i64 ver, .slice a n cap] 29 (0, 0))) := (hb1.block _ (lt_of_heap HX0.out)).trans HX0.out
  clear hb1 hri HB0 HX0
  obtain ⟨c0, c1, _, _⟩ := agg2 HX1.out
  go_wp2_with fail
  refine wp_region_held_drew (S := fun W => W.cell? ⟨w.heap.size, 0, none⟩ = some (.int .i64 ver) ∧ W.cell? ⟨w.heap.size, 1, none⟩ = some (.slice a n cap)) (by kernel_rfl) (by exact ⟨c0, c1⟩) (fun hHeld => ?_)
  change wpAnyH _ _ _ _ _ 9 (Array.replicate 9 false) _ _
  refine wpAnyH_take (i := 0) (oi := _) (v := _) (by simp only [List.getElem?_toArray, List.getElem?_cons_zero]; rfl) (by kernel_rfl) (by kernel_rfl) (by kernel_rfl) (by exact fun _ _ _ h => h) (Or.inl ⟨by rfl, by intro w' hSw; (try dsimp only at hSw); first | (go_simp; done) | (go_simp; with_reducible rfl)⟩) hHeld ?_
  simp only [Act.put, List.setIfInBounds_toArray, List.set_cons_zero, List.set_cons_succ]
  refine wpAnyH_take (i := 1) (oi := _) (v := _) (by simp only [List.getElem?_toArray, List.getElem?_cons_succ, List.getElem?_cons_zero]; rfl) (by kernel_rfl) (by kernel_rfl) (by kernel_rfl) (by exact fun _ _ _ h => h) (Or.inl ⟨by rfl, by intro w' hSw; (try dsimp only at hSw); first | (go_simp; done) | (go_simp; with_reducible rfl)⟩) hHeld ?_
  simp only [Act.put, List.setIfInBounds_toArray, List.set_cons_zero, List.set_cons_succ]
  refine wpAnyH_take (i := 3) (oi := _) (v := _) (by simp only [List.getElem?_toArray, List.getElem?_cons_succ, List.getElem?_cons_zero]; rfl) (by kernel_rfl) (by kernel_rfl) (by kernel_rfl) (by exact fun _ _ _ h => h) (Or.inl ⟨by rfl, by intro w' hSw; (try dsimp only at hSw); first | (go_simp; done) | (go_simp; with_reducible rfl)⟩) hHeld ?_
  simp only [Act.put, List.setIfInBounds_toArray, List.set_cons_zero, List.set_cons_succ]
  refine wpAnyH_take (i := 4) (oi := _) (v := _) (by simp only [List.getElem?_toArray, List.getElem?_cons_succ, List.getElem?_cons_zero]; rfl) (by kernel_rfl) (by kernel_rfl) (by kernel_rfl) (by exact fun _ _ _ h => h) (Or.inl ⟨by rfl, by intro w' hSw; (try dsimp only at hSw); first | (go_simp; done) | (go_simp; with_reducible rfl)⟩) hHeld ?_
  simp only [Act.put, List.setIfInBounds_toArray, List.set_cons_zero, List.set_cons_succ]
  refine wpAnyH_take (i := 5) (oi := _) (v := _) (by simp only [List.getElem?_toArray, List.getElem?_cons_succ, List.getElem?_cons_zero]; rfl) (by kernel_rfl) (by kernel_rfl) (by kernel_rfl) (by exact fun _ _ _ h => h) (Or.inl ⟨by rfl, by intro w' hSw; (try dsimp only at hSw); first | (go_simp; done) | (go_simp; with_reducible rfl)⟩) hHeld ?_
  simp only [Act.put, List.setIfInBounds_toArray, List.set_cons_zero, List.set_cons_succ]
  refine wpAnyH_ready (rs := [2]) (by kernel_rfl) (by simp) ?_
  refine AllReadyH.cons rfl (fun K hK => ?_) AllReadyH.nil
  go_simp
  go_wp2_with fail
  refine (hp1 _).mono ?_
  rintro r w2 ⟨rfl, hb2⟩
  have HB2 : Hid (Below w.heap.size w w2) := HB1.out.drew.trans (hb2.mono HB1.out.drew.size)
  have HX2 : Hid (w2.heap[w.heap.size]? = some (.cells #[.int .i64 ver, .slice a n cap] 29 (0, 0))) := (hb2.block _ (lt_of_heap HX1.out)).trans HX1.out
  refine hK.out _ _ ⟨(hb2.cell (p := ⟨w.heap.size, 0, none⟩) (lt_of_cell hHeld.1)).trans hHeld.1, (hb2.cell (p := ⟨w.heap.size, 1, none⟩) (lt_of_cell hHeld.2)).trans hHeld.2⟩ (fun hHeld => ?_)
  clear hK K hb2
  refine wpAnyH_ready (rs := [6]) (by kernel_rfl) (by simp) ?_
  refine AllReadyH.cons rfl (fun K hK => ?_) AllReadyH.nil
  go_simp
  go_wp2_with fail
  refine (hp2 _).mono ?_
  rintro r w3 ⟨rfl, hb3⟩
  have HB3 : Hid (Below w.heap.size w w3) := HB2.out.trans (hb3.mono HB2.out.size)
  have HX3 : Hid (w3.heap[w.heap.size]? = some (.cells #[.int .i64 ver, .slice a n cap] 29 (0, 0))) := (hb3.block _ (lt_of_heap HX2.out)).trans HX2.out
  refine hK.out _ _ ⟨(hb3.cell (p := ⟨w.heap.size, 0, none⟩) (lt_of_cell hHeld.1)).trans hHeld.1, (hb3.cell (p := ⟨w.heap.size, 1, none⟩) (lt_of_cell hHeld.2)).trans hHeld.2⟩ (fun hHeld => ?_)
  clear hK K hb3
  refine wpAnyH_take (i := 7) (oi := _) (v := _) (by simp only [List.getElem?_toArray, List.getElem?_cons_succ, List.getElem?_cons_zero]; rfl) (by kernel_rfl) (by kernel_rfl) (by kernel_rfl) (by exact fun _ _ _ h => h) (Or.inl ⟨by rfl, by intro w' hSw; (try dsimp only at hSw); first | (go_simp; done) | (go_simp; with_reducible rfl)⟩) hHeld ?_
  simp only [Act.put, List.setIfInBounds_toArray, List.set_cons_zero, List.set_cons_succ]
  refine wpAnyH_take (i := 8) (oi := _) (v := _) (by simp only [List.getElem?_toArray, List.getElem?_cons_succ, List.getElem?_cons_zero]; rfl) (by kernel_rfl) (by kernel_rfl) (by kernel_rfl) (by exact fun _ _ _ h => h) (Or.inl ⟨by rfl, by intro w' hSw; (try dsimp only at hSw); first | (go_simp; done) | (go_simp; with_reducible rfl)⟩) hHeld ?_
  simp only [Act.put, List.setIfInBounds_toArray, List.set_cons_zero, List.set_cons_succ]
  refine wpAnyH_done (by kernel_rfl) ?_ _
  rw [HF2.out]
  clear hp1 hp2 hq1 hq2 HF2 HB1 HB2 HX1 HX2 c0 c1 hHeld
  go_wp2_with fail
  go_loopw [4, 5] (fun t i wr => ∃ k : Nat, k ≤ n ∧ i = .int .i64 k ∧ t = .string (partI ver l k) ∧ wr.heap[w.heap.size]? = some (.cells #[.int .i64 ver, .slice a n cap] 29 (0, 0)) ∧ Below w.heap.size w wr) (fun _ i _ => n - (intOf i).toNat)
  case atStart => exact ⟨0, Nat.zero_le _, rfl, rfl, HX3.out, HB3.out⟩
  case round =>
    clear HX3 HB3
    obtain ⟨k, hk, rfl, rfl, hX, hB'⟩ := hrel
    have HX : Hid (wr.heap[w.heap.size]? = some (.cells #[.int .i64 ver, .slice a n cap] 29 (0, 0))) := hX
    have HB : Hid (Below w.heap.size w wr) := hB'
    clear hX hB'
    obtain ⟨x0, x1, _, _⟩ := agg2 HX.out
    by_cases hlt : k < n
    · have hRk : RowR wr B _ l := row_below HR.out HB.out (Nat.le_refl _)
      obtain ⟨g, cap', he⟩ := row_some hRk (by rw [HLN.out]; omega)
      rw [HLN.out] at he
      cases he
      have hkl : k < l.length := by rw [HLN.out]; exact hlt
      obtain ⟨e0, e1⟩ := hRk.ext k hkl
      have hcap : n ≤ cap ∧ cap ≤ maxLen := by
        rcases hRk.2 with ⟨hx, _⟩ | ⟨g', cap', cur, hx, _, _, h6, h7, _⟩
        · cases hx
        · cases hx; rw [HLN.out] at h6; omega
      have hkc : (k : Int) ≤ cap := by omega
      have hok := HOK.out _ (List.getElem_mem hkl)
      have HSU : Hid (partI ver l k ++ (putF l[k].pos 2 ++ putF l[k].len 2) = partI ver l (k + 1)) := partI_succ ver l k hkl
      have hpz := HPZ.out k hk
      have hno : ¬ 9223372036854775807 < (partI ver l k).size + 4 := by omega
      clear hpz
      clear hRk
      generalize l[k] = y at *
      obtain ⟨yp, yl⟩ := y
      unfold Ok at hok
      dsimp only at e0 e1 hok HSU
      have hp1 := fun w => refput_any yp 2 w (by omega)
      have hp2 := fun w => refput_any yl 2 w (by omega)
      have hq1 : (putF yp 2).size = 2 := by
        have := (numF_in [] yp 2 (by decide) (by decide) hok.1 (by show yp < 65536; omega)).2
        simpa using this
      have hq2 : (putF yl 2).size = 2 := by
        have := (numF_in [] yl 2 (by decide) (by decide) (by omega) (by show yl < 65536; omega)).2
        simpa using this
      go_wp2_with fail
      refine wp_region_held_drew (S := fun W => W.cell? ⟨w.heap.size, 1, none⟩ = some (.slice (some ⟨g, 0, none⟩) n cap) ∧ W.cell? ⟨g, k * 2, none⟩ = some (.int .i64 yp) ∧ W.cell? ⟨g, k * 2 + 1, none⟩ = some (.int .i64 yl)) (by kernel_rfl) (by exact ⟨x1, e0, e1⟩) (fun hHeld => ?_)
      change wpAnyH _ _ _ _ _ 18 (Array.replicate 18 false) _ _
      refine wpAnyH_take (i := 0) (oi := _) (v := _) (by simp only [List.getElem?_toArray, List.getElem?_cons_zero]; rfl) (by kernel_rfl) (by kernel_rfl) (by kernel_rfl) (by exact fun _ _ _ h => h) (Or.inl ⟨by rfl, by intro w' hSw; (try dsimp only at hSw); first | (go_simp; done) | (go_simp; with_reducible rfl)⟩) hHeld ?_
      simp only [Act.put, List.setIfInBounds_toArray, List.set_cons_zero, List.set_cons_succ]
      refine wpAnyH_take (i := 1) (oi := _) (v := _) (by simp only [List.getElem?_toArray, List.getElem?_cons_succ, List.getElem?_cons_zero]; rfl) (by kernel_rfl) (by kernel_rfl) (by kernel_rfl) (by exact fun _ _ _ h => h) (Or.inl ⟨by rfl, by intro w' hSw; (try dsimp only at hSw); first | (go_simp; done) | (go_simp; with_reducible rfl)⟩) hHeld ?_
      simp only [Act.put, List.setIfInBounds_toArray, List.set_cons_zero, List.set_cons_succ]
      refine wpAnyH_take (i := 2) (oi := _) (v := _) (by simp only [List.getElem?_toArray, List.getElem?_cons_succ, List.getElem?_cons_zero]; rfl) (by kernel_rfl) (by kernel_rfl) (by kernel_rfl) (by exact fun _ _ _ h => h) (Or.inl ⟨by rfl, by intro w' hSw; (try dsimp only at hSw); first | (go_simp; done) | (go_simp; with_reducible rfl)⟩) hHeld ?_
      simp only [Act.put, List.setIfInBounds_toArray, List.set_cons_zero, List.set_cons_succ]
      refine wpAnyH_take (i := 3) (oi := _) (v := _) (by simp only [List.getElem?_toArray, List.getElem?_cons_succ, List.getElem?_cons_zero]; rfl) (by kernel_rfl) (by kernel_rfl) (by kernel_rfl) (by exact fun _ _ _ h => h) (Or.inl ⟨by rfl, by intro w' hSw; (try dsimp only at hSw); first | (go_simp; done) | (go_simp; with_reducible rfl)⟩) hHeld ?_
      simp only [Act.put, List.setIfInBounds_toArray, List.set_cons_zero, List.set_cons_succ]
      refine wpAnyH_take (i := 4) (oi := _) (v := _) (by simp only [List.getElem?_toArray, List.getElem?_cons_succ, List.getElem?_cons_zero]; rfl) (by kernel_rfl) (by kernel_rfl) (by kernel_rfl) (by exact fun _ _ _ h => h) (Or.inl ⟨by rfl, by intro w' hSw; (try dsimp only at hSw); first | (go_simp; done) | (go_simp; with_reducible rfl)⟩) hHeld ?_
      simp only [Act.put, List.setIfInBounds_toArray, List.set_cons_zero, List.set_cons_succ]
      refine wpAnyH_take (i := 5) (oi := _) (v := _) (by simp only [List.getElem?_toArray, List.getElem?_cons_succ, List.getElem?_cons_zero]; rfl) (by kernel_rfl) (by kernel_rfl) (by kernel_rfl) (by exact fun _ _ _ h => h) (Or.inl ⟨by rfl, by intro w' hSw; (try dsimp only at hSw); first | (go_simp; done) | (go_simp; with_reducible rfl)⟩) hHeld ?_
      simp only [Act.put, List.setIfInBounds_toArray, List.set_cons_zero, List.set_cons_succ]
      refine wpAnyH_take (i := 6) (oi := _) (v := _) (by simp only [List.getElem?_toArray, List.getElem?_cons_succ, List.getElem?_cons_zero]; rfl) (by kernel_rfl) (by kernel_rfl) (by kernel_rfl) (by exact fun _ _ _ h => h) (Or.inl ⟨by rfl, by intro w' hSw; (try dsimp only at hSw); first | (go_simp; done) | (go_simp; with_reducible rfl)⟩) hHeld ?_
      simp only [Act.put, List.setIfInBounds_toArray, List.set_cons_zero, List.set_cons_succ]
      refine wpAnyH_take (i := 8) (oi := _) (v := _) (by simp only [List.getElem?_toArray, List.getElem?_cons_succ, List.getElem?_cons_zero]; rfl) (by kernel_rfl) (by kernel_rfl) (by kernel_rfl) (by exact fun _ _ _ h => h) (Or.inl ⟨by rfl, by intro w' hSw; (try dsimp only at hSw); first | (go_simp; done) | (go_simp; with_reducible rfl)⟩) hHeld ?_
      simp only [Act.put, List.setIfInBounds_toArray, List.set_cons_zero, List.set_cons_succ]
      refine wpAnyH_take (i := 9) (oi := _) (v := _) (by simp only [List.getElem?_toArray, List.getElem?_cons_succ, List.getElem?_cons_zero]; rfl) (by kernel_rfl) (by kernel_rfl) (by kernel_rfl) (by exact fun _ _ _ h => h) (Or.inl ⟨by rfl, by intro w' hSw; (try dsimp only at hSw); first | (go_simp; done) | (go_simp; with_reducible rfl)⟩) hHeld ?_
      simp only [Act.put, List.setIfInBounds_toArray, List.set_cons_zero, List.set_cons_succ]
      refine wpAnyH_take (i := 10) (oi := _) (v := _) (by simp only [List.getElem?_toArray, List.getElem?_cons_succ, List.getElem?_cons_zero]; rfl) (by kernel_rfl) (by kernel_rfl) (by kernel_rfl) (by exact fun _ _ _ h => h) (Or.inl ⟨by rfl, by intro w' hSw; (try dsimp only at hSw); first | (go_simp; done) | (go_simp; with_reducible rfl)⟩) hHeld ?_
      simp only [Act.put, List.setIfInBounds_toArray, List.set_cons_zero, List.set_cons_succ]
      refine wpAnyH_take (i := 11) (oi := _) (v := _) (by simp only [List.getElem?_toArray, List.getElem?_cons_succ, List.getElem?_cons_zero]; rfl) (by kernel_rfl) (by kernel_rfl) (by kernel_rfl) (by exact fun _ _ _ h => h) (Or.inl ⟨by rfl, by intro w' hSw; (try dsimp only at hSw); first | (go_simp; done) | (go_simp; with_reducible rfl)⟩) hHeld ?_
      simp only [Act.put, List.setIfInBounds_toArray, List.set_cons_zero, List.set_cons_succ]
      refine wpAnyH_take (i := 12) (oi := _) (v := _) (by simp only [List.getElem?_toArray, List.getElem?_cons_succ, List.getElem?_cons_zero]; rfl) (by kernel_rfl) (by kernel_rfl) (by kernel_rfl) (by exact fun _ _ _ h => h) (Or.inl ⟨by rfl, by intro w' hSw; (try dsimp only at hSw); first | (go_simp; done) | (go_simp; with_reducible rfl)⟩) hHeld ?_
      simp only [Act.put, List.setIfInBounds_toArray, List.set_cons_zero, List.set_cons_succ]
      refine wpAnyH_take (i := 13) (oi := _) (v := _) (by simp only [List.getElem?_toArray, List.getElem?_cons_succ, List.getElem?_cons_zero]; rfl) (by kernel_rfl) (by kernel_rfl) (by kernel_rfl) (by exact fun _ _ _ h => h) (Or.inl ⟨by rfl, by intro w' hSw; (try dsimp only at hSw); first | (go_simp; done) | (go_simp; with_reducible rfl)⟩) hHeld ?_
      simp only [Act.put, List.setIfInBounds_toArray, List.set_cons_zero, List.set_cons_succ]
      refine wpAnyH_ready (rs := [7]) (by kernel_rfl) (by simp) ?_
      refine AllReadyH.cons rfl (fun K hK => ?_) AllReadyH.nil
      go_simp
      go_wp2_with fail
      refine (hp1 _).mono ?_
      rintro r w2 ⟨rfl, hb2⟩
      have HB2 : Hid (Below w.heap.size w w2) := HB.out.drew.trans (hb2.mono HB.out.drew.size)
      have HX2 : Hid (w2.heap[w.heap.size]? = some (.cells #[.int .i64 ver, .slice (some ⟨g, 0, none⟩) n cap] 29 (0, 0))) := (hb2.block _ (lt_of_heap HX.out)).trans HX.out
      refine hK.out _ _ ⟨(hb2.cell (p := ⟨w.heap.size, 1, none⟩) (lt_of_cell hHeld.1)).trans hHeld.1, (hb2.cell (p := ⟨g, k * 2, none⟩) (lt_of_cell hHeld.2.1)).trans hHeld.2.1, (hb2.cell (p := ⟨g, k * 2 + 1, none⟩) (lt_of_cell hHeld.2.2)).trans hHeld.2.2⟩ (fun hHeld => ?_)
      clear hK K hb2
      refine wpAnyH_ready (rs := [14]) (by kernel_rfl) (by simp) ?_
      refine AllReadyH.cons rfl (fun K hK => ?_) AllReadyH.nil
      go_simp
      go_wp2_with fail
      refine (hp2 _).mono ?_
      rintro r w3 ⟨rfl, hb3⟩
      have HB3 : Hid (Below w.heap.size w w3) := HB2.out.trans (hb3.mono HB2.out.size)
      have HX3 : Hid (w3.heap[w.heap.size]? = some (.cells #[.int .i64 ver, .slice (some ⟨g, 0, none⟩) n cap] 29 (0, 0))) := (hb3.block _ (lt_of_heap HX2.out)).trans HX2.out
      refine hK.out _ _ ⟨(hb3.cell (p := ⟨w.heap.size, 1, none⟩) (lt_of_cell hHeld.1)).trans hHeld.1, (hb3.cell (p := ⟨g, k * 2, none⟩) (lt_of_cell hHeld.2.1)).trans hHeld.2.1, (hb3.cell (p := ⟨g, k * 2 + 1, none⟩) (lt_of_cell hHeld.2.2)).trans hHeld.2.2⟩ (fun hHeld => ?_)
      clear hK K hb3
      refine wpAnyH_take (i := 15) (oi := _) (v := _) (by simp only [List.getElem?_toArray, List.getElem?_cons_succ, List.getElem?_cons_zero]; rfl) (by kernel_rfl) (by kernel_rfl) (by kernel_rfl) (by exact fun _ _ _ h => h) (Or.inl ⟨by rfl, by intro w' hSw; (try dsimp only at hSw); first | (go_simp; done) | (go_simp; with_reducible rfl)⟩) hHeld ?_
      simp only [Act.put, List.setIfInBounds_toArray, List.set_cons_zero, List.set_cons_succ]
      refine wpAnyH_take (i := 16) (oi := _) (v := _) (by simp only [List.getElem?_toArray, List.getElem?_cons_succ, List.getElem?_cons_zero]; rfl) (by kernel_rfl) (by kernel_rfl) (by kernel_rfl) (by exact fun _ _ _ h => h) (Or.inl ⟨by rfl, by intro w' hSw; (try dsimp only at hSw); first | (go_simp; done) | (go_simp; with_reducible rfl)⟩) hHeld ?_
      simp only [Act.put, List.setIfInBounds_toArray, List.set_cons_zero, List.set_cons_succ]
      refine wpAnyH_take (i := 17) (oi := _) (v := _) (by simp only [List.getElem?_toArray, List.getElem?_cons_succ, List.getElem?_cons_zero]; rfl) (by kernel_rfl) (by kernel_rfl) (by kernel_rfl) (by exact fun _ _ _ h => h) (Or.inl ⟨by rfl, by intro w' hSw; (try dsimp only at hSw); first | (go_simp; done) | (go_simp; with_reducible rfl)⟩) hHeld ?_
      simp only [Act.put, List.setIfInBounds_toArray, List.set_cons_zero, List.set_cons_succ]
      refine wpAnyH_done (by kernel_rfl) ?_ _
      rw [HSU.out]
      go_wp2
      go_roundw
      case rel => exact ⟨k + 1, by omega, by go_num, rfl, HX3.out, HB3.out⟩
      case measure => simp [intOf]; omega
    · obtain rfl : k = n := by omega
      have hsl := HSL.out
      rw [HBB.out] at hsl
      go_wp2_with fail
      refine (hsl _).mono ?_
      rintro r w7 ⟨rfl, hb7⟩
      have HB7 : Hid (Below w.heap.size w w7) := HB.out.trans (hb7.mono HB.out.size)
      clear hb7
      go_wp2
      go_ret2
      exact ⟨by rw [HBB.out]; rfl, HB7.out⟩

end Go.Proofs.YtkfphmhnaelflacGreatDoor.Id

namespace Go.Proofs.YtkfphmhnaelflacGreatDoor.Id
open Go.ChangeShapes Go.WideShapes Go.ChangeAt Go.RowKit Go.Proofs.Fa
open Go.Proofs.YtkfphmhnaelflacGreatDoor.As (ErrT)

variable {w : World} {B C : Nat}
set_option maxRecDepth 100000
set_option maxHeartbeats 1000000

theorem code_any (e : Int) (w : World) (hE : ErrT w) : Calls Tryz.prog 9 #[errV e] w fun r w' => r = .returned (.int .i64 e) ∧ Below w.heap.size w w' := by
  have hN := Mk.number_errV e w hE
  rw [show Mk.errV e = errV e from rfl] at hN
  generalize errV e = ev at *
  go_enter Tryz.func9, Tryz.ntmps9
  go_wp2_with fail
  refine hN.mono ?_
  rintro r w1 ⟨rfl, hb⟩
  go_wp2
  go_ret
  exact ⟨rfl, hb⟩

theorem same_any (ver : Int) (v u : Value) (l : List Ext) (hr : Row w B v l) (hs : RowR w C u l) (hn : l.length ≤ 1000) :
    Calls Tryz.prog 14 #[ino ver v, ino ver u] w fun r w' => r = .returned (.bool true) ∧ Below w.heap.size w w' := by
  obtain ⟨n, hln⟩ : ∃ n, l.length = n := ⟨_, rfl⟩
  obtain ⟨a, cap, hv0, hmx⟩ := row_slice hr
  obtain ⟨c, cap2, hu0, _⟩ := row_slice hs
  rw [hln] at hv0 hu0 hmx hn
  subst hv0 hu0
  have HR : Hid (Row w B (.slice a n cap) l) := hr
  have HS : Hid (RowR w C (.slice c n cap2) l) := hs
  clear hr hs
  simp only [ino]
  obtain ⟨w0, hw0⟩ : ∃ w0, w0 = (w.alloc (Obj.cells #[.int .i64 ver, .slice a n cap] 26)).alloc (Obj.cells #[.int .i64 ver, .slice c n cap2] 29) := ⟨_, rfl⟩
  have HB0 : Hid (Below w.heap.size w w0) := by rw [hw0]; exact ((Below.refl _ _).alloc (Nat.le_refl _) _).alloc (by simp) _
  have HX0 : w0.heap[w.heap.size]? = some (.cells #[.int .i64 ver, .slice a n cap] 26 (0, 0)) := by
    rw [hw0]; exact (Below.heap_alloc _ _ _ (by simp)).trans (heap_alloc_new w _)
  have HY0 : w0.heap[w.heap.size + 1]? = some (.cells #[.int .i64 ver, .slice c n cap2] 29 (0, 0)) := by
    rw [hw0]
    have := heap_alloc_new (w.alloc (Obj.cells #[.int .i64 ver, .slice a n cap] 26)) (Obj.cells #[.int .i64 ver, .slice c n cap2] 29)
    rw [World.size_alloc] at this
    exact this
  obtain ⟨x0, x1, _, _⟩ := agg2 HX0
  obtain ⟨y0, y1, _, _⟩ := agg2 HY0
  have HX0' : Hid (_ = _) := HX0
  have HY0' : Hid (_ = _) := HY0
  clear HX0 HY0
  go_enter Tryz.func14, Tryz.ntmps14
  go_wp2_with fail
  rw [← hw0]
  clear hw0 x0 x1 y0 y1
  go_loopw [5] (fun i wr => ∃ k : Nat, k ≤ n ∧ i = .int .i64 k ∧ wr.heap[w.heap.size]? = some (.cells #[.int .i64 ver, .slice a n cap] 26 (0, 0)) ∧ wr.heap[w.heap.size + 1]? = some (.cells #[.int .i64 ver, .slice c n cap2] 29 (0, 0)) ∧ Below w.heap.size w wr) (fun i _ => n - (intOf i).toNat)
  case atStart => exact ⟨0, Nat.zero_le _, rfl, HX0'.out, HY0'.out, HB0.out⟩
  case round =>
    clear HX0' HY0' HB0
    obtain ⟨k, hk, rfl, hX, hY, hB⟩ := hrel
    have HX : Hid (wr.heap[w.heap.size]? = some (.cells #[.int .i64 ver, .slice a n cap] 26 (0, 0))) := hX
    have HY : Hid (wr.heap[w.heap.size + 1]? = some (.cells #[.int .i64 ver, .slice c n cap2] 29 (0, 0))) := hY
    have HB : Hid (Below w.heap.size w wr) := hB
    obtain ⟨x0, x1, _, _⟩ := agg2 hX
    obtain ⟨y0, y1, _, _⟩ := agg2 hY
    clear hX hY hB
    by_cases hlt : k < n
    · have hRk : Row wr B _ l := row_below HR.out HB.out (Nat.le_refl _)
      have hSk : RowR wr C _ l := row_below HS.out HB.out (Nat.le_refl _)
      obtain ⟨g, cap', he⟩ := row_some hRk (by omega)
      rw [hln] at he
      cases he
      obtain ⟨h, cap3, he⟩ := row_some hSk (by omega)
      rw [hln] at he
      cases he
      obtain ⟨e0, e1⟩ := hRk.ext k (by omega)
      obtain ⟨f0, f1⟩ := hSk.ext k (by omega)
      clear hRk hSk
      generalize l[k] = y at *
      obtain ⟨yp, yl⟩ := y
      dsimp only at e0 e1 f0 f1
      go_wp2_with fail
      refine wp_region_held_drew (S := fun W => W.cell? ⟨w.heap.size, 1, none⟩ = some (.slice (some ⟨g, 0, none⟩) n cap) ∧ W.cell? ⟨w.heap.size + 1, 1, none⟩ = some (.slice (some ⟨h, 0, none⟩) n cap2) ∧ W.cell? ⟨g, k * 2, none⟩ = some (.int .i64 yp) ∧ W.cell? ⟨g, k * 2 + 1, none⟩ = some (.int .i64 yl) ∧ W.cell? ⟨h, k * 2, none⟩ = some (.int .i64 yp) ∧ W.cell? ⟨h, k * 2 + 1, none⟩ = some (.int .i64 yl)) (by kernel_rfl) (by exact ⟨x1, y1, e0, e1, f0, f1⟩) (fun hHeld => ?_)
      change wpAnyH _ _ _ _ _ 11 (Array.replicate 11 false) _ _
      refine wpAnyH_take (i := 0) (oi := _) (v := _) (by simp only [List.getElem?_toArray, List.getElem?_cons_zero]; rfl) (by kernel_rfl) (by kernel_rfl) (by kernel_rfl) (by exact fun _ _ _ h => h) (Or.inl ⟨by rfl, by intro w' hSw; (try dsimp only at hSw); first | (go_simp; done) | (go_simp; with_reducible rfl)⟩) hHeld ?_
      simp only [Act.put, List.setIfInBounds_toArray, List.set_cons_zero, List.set_cons_succ]
      refine wpAnyH_take (i := 1) (oi := _) (v := _) (by simp only [List.getElem?_toArray, List.getElem?_cons_succ, List.getElem?_cons_zero]; rfl) (by kernel_rfl) (by kernel_rfl) (by kernel_rfl) (by exact fun _ _ _ h => h) (Or.inl ⟨by rfl, by intro w' hSw; (try dsimp only at hSw); first | (go_simp; done) | (go_simp; with_reducible rfl)⟩) hHeld ?_
      simp only [Act.put, List.setIfInBounds_toArray, List.set_cons_zero, List.set_cons_succ]
      refine wpAnyH_take (i := 2) (oi := _) (v := _) (by simp only [List.getElem?_toArray, List.getElem?_cons_succ, List.getElem?_cons_zero]; rfl) (by kernel_rfl) (by kernel_rfl) (by kernel_rfl) (by exact fun _ _ _ h => h) (Or.inl ⟨by rfl, by intro w' hSw; (try dsimp only at hSw); first | (go_simp; done) | (go_simp; with_reducible rfl)⟩) hHeld ?_
      simp only [Act.put, List.setIfInBounds_toArray, List.set_cons_zero, List.set_cons_succ]
      refine wpAnyH_take (i := 3) (oi := _) (v := _) (by simp only [List.getElem?_toArray, List.getElem?_cons_succ, List.getElem?_cons_zero]; rfl) (by kernel_rfl) (by kernel_rfl) (by kernel_rfl) (by exact fun _ _ _ h => h) (Or.inl ⟨by rfl, by intro w' hSw; (try dsimp only at hSw); first | (go_simp; done) | (go_simp; with_reducible rfl)⟩) hHeld ?_
      simp only [Act.put, List.setIfInBounds_toArray, List.set_cons_zero, List.set_cons_succ]
      refine wpAnyH_take (i := 4) (oi := _) (v := _) (by simp only [List.getElem?_toArray, List.getElem?_cons_succ, List.getElem?_cons_zero]; rfl) (by kernel_rfl) (by kernel_rfl) (by kernel_rfl) (by exact fun _ _ _ h => h) (Or.inl ⟨by rfl, by intro w' hSw; (try dsimp only at hSw); first | (go_simp; done) | (go_simp; with_reducible rfl)⟩) hHeld ?_
      simp only [Act.put, List.setIfInBounds_toArray, List.set_cons_zero, List.set_cons_succ]
      refine wpAnyH_take (i := 5) (oi := _) (v := _) (by simp only [List.getElem?_toArray, List.getElem?_cons_succ, List.getElem?_cons_zero]; rfl) (by kernel_rfl) (by kernel_rfl) (by kernel_rfl) (by exact fun _ _ _ h => h) (Or.inl ⟨by rfl, by intro w' hSw; (try dsimp only at hSw); first | (go_simp; done) | (go_simp; with_reducible rfl)⟩) hHeld ?_
      simp only [Act.put, List.setIfInBounds_toArray, List.set_cons_zero, List.set_cons_succ]
      refine wpAnyH_take (i := 6) (oi := _) (v := _) (by simp only [List.getElem?_toArray, List.getElem?_cons_succ, List.getElem?_cons_zero]; rfl) (by kernel_rfl) (by kernel_rfl) (by kernel_rfl) (by exact fun _ _ _ h => h) (Or.inl ⟨by rfl, by intro w' hSw; (try dsimp only at hSw); first | (go_simp; done) | (go_simp; with_reducible rfl)⟩) hHeld ?_
      simp only [Act.put, List.setIfInBounds_toArray, List.set_cons_zero, List.set_cons_succ]
      refine wpAnyH_take (i := 7) (oi := _) (v := _) (by simp only [List.getElem?_toArray, List.getElem?_cons_succ, List.getElem?_cons_zero]; rfl) (by kernel_rfl) (by kernel_rfl) (by kernel_rfl) (by exact fun _ _ _ h => h) (Or.inl ⟨by rfl, by intro w' hSw; (try dsimp only at hSw); first | (go_simp; done) | (go_simp; with_reducible rfl)⟩) hHeld ?_
      simp only [Act.put, List.setIfInBounds_toArray, List.set_cons_zero, List.set_cons_succ]
      refine wpAnyH_take (i := 8) (oi := _) (v := _) (by simp only [List.getElem?_toArray, List.getElem?_cons_succ, List.getElem?_cons_zero]; rfl) (by kernel_rfl) (by kernel_rfl) (by kernel_rfl) (by exact fun _ _ _ h => h) (Or.inl ⟨by rfl, by intro w' hSw; (try dsimp only at hSw); first | (go_simp; done) | (go_simp; with_reducible rfl)⟩) hHeld ?_
      simp only [Act.put, List.setIfInBounds_toArray, List.set_cons_zero, List.set_cons_succ]
      refine wpAnyH_take (i := 9) (oi := _) (v := _) (by simp only [List.getElem?_toArray, List.getElem?_cons_succ, List.getElem?_cons_zero]; rfl) (by kernel_rfl) (by kernel_rfl) (by kernel_rfl) (by exact fun _ _ _ h => h) (Or.inl ⟨by rfl, by intro w' hSw; (try dsimp only at hSw); first | (go_simp; done) | (go_simp; with_reducible rfl)⟩) hHeld ?_
      simp only [Act.put, List.setIfInBounds_toArray, List.set_cons_zero, List.set_cons_succ]
      refine wpAnyH_take (i := 10) (oi := _) (v := _) (by simp only [List.getElem?_toArray, List.getElem?_cons_succ, List.getElem?_cons_zero]; rfl) (by kernel_rfl) (by kernel_rfl) (by kernel_rfl) (by exact fun _ _ _ h => h) (Or.inl ⟨by rfl, by intro w' hSw; (try dsimp only at hSw); first | (go_simp; done) | (go_simp; with_reducible rfl)⟩) hHeld ?_
      simp only [Act.put, List.setIfInBounds_toArray, List.set_cons_zero, List.set_cons_succ]
      refine wpAnyH_done (by kernel_rfl) ?_ _
      go_wp2
      go_roundw
      case rel => exact ⟨k + 1, by omega, by go_num, HX.out, HY.out, HB.out.drew⟩
      case measure => simp [intOf]; omega
    · obtain rfl : k = n := by omega
      go_wp2
      go_ret
      exact ⟨rfl, HB.out⟩

end Go.Proofs.YtkfphmhnaelflacGreatDoor.Id

namespace Go.Proofs.YtkfphmhnaelflacGreatDoor.Id
open Go.ChangeShapes Go.WideShapes Go.ChangeAt Go.RowKit Go.Proofs.Fa
open Go.Proofs.YtkfphmhnaelflacGreatDoor.As (ErrT)
open Go.Proofs.YtkfphmhnaelflacGreatDoor.Mk (NibAt sealS sealF openF open_seal padS padS_size refseal_any)
open Go.Proofs.YtkfphmhnaelflacGreatDoor.Le (streq_yes)

set_option maxRecDepth 100000
set_option maxHeartbeats 4000000

theorem cut504 (a : ByteArray) : ∃ la : Nat, (if (504 : Int) < a.size then (504 : Int) else a.size) = (la : Int) ∧ la ≤ a.size ∧ la ≤ 504 ∧ Hid ((a.extract 0 la).size = la) := by
  by_cases h : 504 < a.size
  · exact ⟨504, by rw [if_pos (by omega)]; rfl, by omega, by omega, show _ = _ by simp; omega⟩
  · exact ⟨a.size, by rw [if_neg (by omega)], by omega, by omega, show _ = _ by simp⟩
theorem seal_pad (k : Int) (a b : ByteArray) (h : padS a = padS b) : sealS k a = sealS k b := by
  have h' : a.data.toList ++ List.replicate (504 - a.size) 0 = b.data.toList ++ List.replicate (504 - b.size) 0 := by
    have := congrArg (fun x : ByteArray => x.data.toList) h
    simpa [padS] using this
  have e : Mk.aheadS k a = Mk.aheadS k b := by
    unfold Mk.aheadS Mk.aheadL
    rw [h']
  unfold sealS
  rw [e]
/-- What both hand out: the inode, or none. -/
def lstE (b : ByteArray) (s : Int) : List Ext := if getE b s = 0 then lstG b (cntG b) else []
def verE (b : ByteArray) (s : Int) : Int := if getE b s = 0 then verG b else 0
theorem GetAt.got {w w' : World} {b : ByteArray} {s : Int} {r : Ending} (h : GetAt w b s r w') : ∃ v, r = .returned (.tuple #[ino (verE b s) v, errV (getE b s)]) ∧ Row w' w.heap.size v (lstE b s) ∧ Below w.heap.size w w' := by
  obtain ⟨⟨ver, v, hr, hy, hn⟩, hb⟩ := h
  refine ⟨v, ?_⟩
  unfold verE lstE
  by_cases he : getE b s = 0
  · obtain ⟨rfl, h2⟩ := hy he
    rw [if_pos he, if_pos he]
    exact ⟨hr, h2, hb⟩
  · obtain ⟨rfl, rfl⟩ := hn he
    rw [if_neg he, if_neg he]
    exact ⟨hr, World.ownsRow_nil _ _ _ _, hb⟩
theorem GetAtR.got {w w' : World} {b : ByteArray} {s : Int} {r : Ending} (h : GetAtR w b s r w') : ∃ v, r = .returned (.tuple #[ino (verE b s) v, .int .i64 (getE b s)]) ∧ RowR w' w.heap.size v (lstE b s) ∧ Below w.heap.size w w' := by
  obtain ⟨⟨ver, v, hr, hy, hn⟩, hb⟩ := h
  refine ⟨v, ?_⟩
  unfold verE lstE
  by_cases he : getE b s = 0
  · obtain ⟨rfl, h2⟩ := hy he
    rw [if_pos he, if_pos he]
    exact ⟨hr, h2, hb⟩
  · obtain ⟨rfl, rfl⟩ := hn he
    rw [if_neg he, if_neg he]
    exact ⟨hr, World.ownsRow_nil _ _ _ _, hb⟩
theorem getE_zero {b : ByteArray} {s : Int} (h : getE b s = 0) : cntG b ≤ 36 ∧ restG b (7 + 4 * cntG b) = true ∧ rightB (verG b) (lstG b (cntG b)) s = true := by
  unfold getE at h
  by_cases h1 : 36 < cntG b
  · rw [if_pos h1] at h; cases h
  · rw [if_neg h1] at h
    by_cases h2 : restG b (7 + 4 * cntG b) = true
    · rw [if_pos h2] at h
      by_cases h3 : rightB (verG b) (lstG b (cntG b)) s = true
      · exact ⟨by omega, h2, h3⟩
      · rw [if_neg h3] at h; cases h
    · rw [if_neg h2] at h; cases h

theorem lstE_bd (b : ByteArray) (hb : b.size = 504) (s : Int) : (lstE b s).length ≤ 36 ∧ ∀ e ∈ lstE b s, -9223372036854775808 ≤ e.pos ∧ e.pos ≤ 9223372036854775807 := by
  unfold lstE
  by_cases he : getE b s = 0
  · rw [if_pos he]
    obtain ⟨h1, _, _⟩ := getE_zero he
    exact ⟨by rw [lstG_length]; exact h1, fun e h => by have := lstG_bd b hb _ h1 e h; omega⟩
  · rw [if_neg he]
    exact ⟨by simp, fun e h => by cases h⟩

theorem inodeGets_calls (body : ByteArray) (s : Int) (w : World) (_ : body.size ≤ maxLen) (_ : (Lit.int .i64 s).wf = true) (hE : ErrT w) (hn : NibAt w) :
    Calls Tryz.prog 4 #[.string body, .int .i64 s] w fun r w' => r = .returned (.bool true) ∧ Below w.heap.size w w' := by
  have HE : Hid (ErrT w) := hE
  have HN : Hid (NibAt w) := hn
  clear hE hn
  obtain ⟨la, ea, hla, hl5, HA⟩ := cut504 body
  have hz : (body.extract 0 la).size ≤ 504 := by rw [HA.out]; exact hl5
  have HS : Hid (∀ w, Calls Tryz.prog 15 #[.int .i64 6, .string (body.extract 0 la)] w fun e w' => e = .returned (.tuple #[.string (sealS 6 (body.extract 0 la)), .int .i64 0]) ∧ Below w.heap.size w w') := fun w => by
    have h := refseal_any 6 (body.extract 0 la) w (by rw [HA.out]; unfold maxLen; omega)
    unfold sealF at h
    rw [if_pos (by decide), if_pos hz] at h
    exact h
  have hO : openF 6 (sealS 6 (body.extract 0 la)) = (padS (body.extract 0 la), 0) := open_seal (by decide) (by decide) hz
  have hpz := padS_size hz
  have HG : Hid (∀ w, NibAt w → _) := fun w h => get_any (w := w) _ _ s h hO hpz
  have HQ : Hid (∀ w, _) := fun w => getR_any (w := w) _ _ s hO hpz
  have HBK : Hid (getE (padS (body.extract 0 la)) s = 0 → rightB (verE (padS (body.extract 0 la)) s) (lstE (padS (body.extract 0 la)) s) 2048 = true ∧ sealS 6 (bodyI (verE (padS (body.extract 0 la)) s) (lstE (padS (body.extract 0 la)) s)) = sealS 6 (body.extract 0 la)) := fun h => by
    obtain ⟨h1, h2, h3⟩ := getE_zero h
    unfold verE lstE
    rw [if_pos h, if_pos h]
    exact ⟨right_more h3, seal_pad 6 _ _ (body_back _ hpz h1 h2)⟩
  obtain ⟨hlE, hwE⟩ := lstE_bd _ hpz s
  clear hO hz
  generalize sealS 6 (body.extract 0 la) = sec at *
  generalize padS (body.extract 0 la) = b at *
  have HG1 : Hid (∀ w, NibAt w → Calls Tryz.prog 12 #[.string sec, .int .i64 s] w fun r w' => ∃ v, r = .returned (.tuple #[ino (verE b s) v, errV (getE b s)]) ∧ Row w' w.heap.size v (lstE b s) ∧ Below w.heap.size w w') := fun w h => (HG.out w h).mono fun _ _ => GetAt.got
  have HQ1 : Hid (∀ w, Calls Tryz.prog 13 #[.string sec, .int .i64 s] w fun r w' => ∃ v, r = .returned (.tuple #[ino (verE b s) v, .int .i64 (getE b s)]) ∧ RowR w' w.heap.size v (lstE b s) ∧ Below w.heap.size w w') := fun w => (HQ.out w).mono fun _ _ => GetAtR.got
  clear HG HQ hpz
  generalize verE b s = ver at *
  generalize lstE b s = l at *
  generalize getE b s = e at *
  obtain ⟨n, hln⟩ : ∃ n, l.length = n := ⟨_, rfl⟩
  have HLN : Hid (l.length = n) := hln
  have HWE : Hid (∀ e ∈ l, -9223372036854775808 ≤ e.pos ∧ e.pos ≤ 9223372036854775807) := hwE
  rw [hln] at hlE
  clear hln hwE
  go_enter Tryz.func4, Tryz.ntmps4
  go_wp2_with fail
  refine (speaks_any _).mono ?_
  rintro r w1 ⟨rfl, hb1⟩
  have HB1 : Hid (Below w.heap.size w w1) := hb1
  clear hb1
  go_wp2_with fail
  refine (HS.out _).mono ?_
  rintro r w2 ⟨rfl, hb2⟩
  have HB2 : Hid (Below w.heap.size w w2) := HB1.out.trans (hb2.mono HB1.out.size)
  clear hb2 HB1 HS
  go_wp2_with fail
  refine (HG1.out _ (HN.out.below HB2.out)).mono ?_
  rintro r w3 ⟨v, rfl, hr3, hb3⟩
  obtain ⟨xa, xc, rfl, hmx⟩ := row_slice hr3
  have hx := hr3
  rw [HLN.out] at hx ⊢
  have HB3 : Hid (Below w.heap.size w (w3.alloc (Obj.cells #[.int .i64 ver, .slice xa n xc] 26))) := (HB2.out.trans (hb3.mono HB2.out.size)).alloc (by have := HB2.out.size; have := hb3.size; omega) _
  have HR3 : Hid (Row (w3.alloc (Obj.cells #[.int .i64 ver, .slice xa n xc] 26)) w2.heap.size (.slice xa n xc) l) := World.ownsRow.alloc hx _
  have HY3 : Hid ((w3.alloc (Obj.cells #[.int .i64 ver, .slice xa n xc] 26)).heap[w3.heap.size]? = some (.cells #[.int .i64 ver, .slice xa n xc] 26 (0, 0))) := heap_alloc_new _ _
  clear hb3 hr3 hx hmx HG1 HB2
  simp only [ino]
  go_wp2_with fail
  refine (HQ1.out _).mono ?_
  rintro r w4 ⟨v, rfl, hr4, hb4⟩
  obtain ⟨ya, yc, rfl, hmy⟩ := row_slice hr4
  rw [HLN.out] at hr4 ⊢
  have hB4 : Below w.heap.size w w4 := HB3.out.trans (hb4.mono HB3.out.size)
  have HB5 : Hid (Below w.heap.size w (w4.alloc (Obj.cells #[.int .i64 ver, .slice ya n yc] 29))) := hB4.alloc hB4.size _
  have hR4 : Row w4 w2.heap.size (.slice xa n xc) l := row_below HR3.out hb4 (Nat.le_refl _)
  have HR5 : Hid (Row (w4.alloc (Obj.cells #[.int .i64 ver, .slice ya n yc] 29)) w2.heap.size (.slice xa n xc) l) := World.ownsRow.alloc hR4 _
  have HS5 : Hid (RowR (w4.alloc (Obj.cells #[.int .i64 ver, .slice ya n yc] 29)) _ (.slice ya n yc) l) := World.ownsRow.alloc hr4 _
  have hY4 : w4.heap[w3.heap.size]? = some (.cells #[.int .i64 ver, .slice xa n xc] 26 (0, 0)) := (hb4.block _ (lt_of_heap HY3.out)).trans HY3.out
  have HY5 : Hid ((w4.alloc (Obj.cells #[.int .i64 ver, .slice ya n yc] 29)).heap[w3.heap.size]? = some (.cells #[.int .i64 ver, .slice xa n xc] 26 (0, 0))) := (Below.heap_alloc _ _ _ (lt_of_heap hY4)).trans hY4
  have HZ5 : Hid ((w4.alloc (Obj.cells #[.int .i64 ver, .slice ya n yc] 29)).heap[w4.heap.size]? = some (.cells #[.int .i64 ver, .slice ya n yc] 29 (0, 0))) := heap_alloc_new _ _
  have hsm := same_any (w := w4.alloc (Obj.cells #[.int .i64 ver, .slice ya n yc] 29)) ver _ _ l HR5.out HS5.out (by rw [HLN.out]; omega)
  clear hb4 hr4 hmy hB4 hR4 hY4 HQ1 HB3 HR3 HY3 HS5
  simp only [ino] at hsm ⊢
  obtain ⟨a0, a1, _, _⟩ := agg2 HY5.out
  obtain ⟨b0, b1, _, _⟩ := agg2 HZ5.out
  have hC := fun w hE => code_any e w hE
  by_cases he : e = 0
  · obtain ⟨hri, hbk⟩ := HBK.out he
    subst he
    rw [show errV 0 = .nilIface from rfl] at hC ⊢
    go_wp2_with fail
    refine hsm.mono ?_
    rintro r w6 ⟨rfl, hb6⟩
    have HB6 : Hid (Below w.heap.size w w6) := HB5.out.trans (hb6.mono HB5.out.size)
    have HR6 : Hid (Row w6 w2.heap.size (.slice xa n xc) l) := row_below HR5.out hb6 (Nat.le_refl _)
    have HY6 : Hid (w6.heap[w3.heap.size]? = some (.cells #[.int .i64 ver, .slice xa n xc] 26 (0, 0))) := (hb6.block _ (lt_of_heap HY5.out)).trans HY5.out
    clear hb6 hsm HB5 HR5 HY5 HZ5 a0 a1 b0 b1
    go_wp2_with fail
    refine (hC _ (HE.out.below HB6.out HE.out.lt)).mono ?_
    rintro r w7 ⟨rfl, hb7⟩
    have HB7 : Hid (Below w.heap.size w w7) := HB6.out.trans (hb7.mono HB6.out.size)
    have HR7 : Hid (Row w7 w2.heap.size (.slice xa n xc) l) := row_below HR6.out hb7 (Nat.le_refl _)
    have HY7 : Hid (w7.heap[w3.heap.size]? = some (.cells #[.int .i64 ver, .slice xa n xc] 26 (0, 0))) := (hb7.block _ (lt_of_heap HY6.out)).trans HY6.out
    clear hb7 hC HB6 HR6 HY6
    obtain ⟨a0, a1, _, _⟩ := agg2 HY7.out
    have hP := put_yes (w := w7) ver (.slice xa n xc) l HR7.out HWE.out hri (HN.out.below HB7.out)
    rw [hbk] at hP
    simp only [ino] at hP
    have hq0 : (sec.toList == sec.toList) = true := streq_yes rfl
    clear hri hbk
    go_wp2_with fail
    refine hP.mono ?_
    rintro r w8 ⟨rfl, hb8⟩
    have HB8 : Hid (Below w.heap.size w w8) := HB7.out.trans (hb8.mono HB7.out.size)
    clear hb8 hP
    go_wp2
    go_ret
    exact ⟨rfl, HB8.out⟩
  · have hne : (e == 0) = false := by simpa using he
    generalize errV e = ev at *
    go_wp2_with fail
    refine hsm.mono ?_
    rintro r w6 ⟨rfl, hb6⟩
    have HB6 : Hid (Below w.heap.size w w6) := HB5.out.trans (hb6.mono HB5.out.size)
    clear hb6 hsm HB5 HR5 HY5 HZ5 a0 a1 b0 b1
    go_wp2_with fail
    refine (hC _ (HE.out.below HB6.out HE.out.lt)).mono ?_
    rintro r w7 ⟨rfl, hb7⟩
    have HB7 : Hid (Below w.heap.size w w7) := HB6.out.trans (hb7.mono HB6.out.size)
    clear hb7 hC HB6
    go_wp2
    go_ret
    exact ⟨rfl, HB7.out⟩

end Go.Proofs.YtkfphmhnaelflacGreatDoor.Id

namespace Go.Proofs.Rg
open Go

section
variable {P : Program} {ops : Array Oper} {Q : Exit → Act → World → Prop} {md : Region.Mode} {SL : Array Bool → World → Prop}

/-- Whatever order is picked from here on; behind each operation SL holds of what has come up then. -/
def wpAnyL (P : Program) (md : Region.Mode) (ops : Array Oper) (Q : Exit → Act → World → Prop) (SL : Array Bool → World → Prop) : Nat → Array Bool → Act → World → Prop
  | 0, listed, a, w => Region.ready md ops listed = [] ∧ Q .normal a w
  | fuel + 1, listed, a, w =>
    (Region.ready md ops listed = [] → Q .normal a w) ∧
    ∀ i ∈ Region.ready md ops listed, wpOp P ops Q i (fun a' w' => SL (listed.setIfInBounds i true) w' ∧ wpAnyL P md ops Q SL fuel (listed.setIfInBounds i true) a' w') a w

theorem wpAny_of_L : ∀ (fuel : Nat) (listed : Array Bool) (a : Act) (w : World), wpAnyL P md ops Q SL fuel listed a w → wpAny P md ops Q fuel listed a w
  | 0, _, _, _, h => h
  | fuel + 1, _, _, _, h => ⟨h.1, fun i hi => wpOp_mono (fun a' w' h' => wpAny_of_L fuel _ a' w' h'.2) (h.2 i hi)⟩

/-- Those that wait for i. -/
def waitsB (md : Region.Mode) (ops : Array Oper) (i : Nat) (listed : Array Bool) : Bool :=
  (List.range ops.size).all fun j => match ops[j]? with
    | some o => !(o.after.any fun e => Region.binds md e && e.on == i) || !(listed.getD j true)
    | none => true

theorem wpAnyL_first {i : Nat} {oi : Oper} {v : Value} {Si : World → Prop} (hi : ops[i]? = some oi) (hsel : ∀ (j : Nat) (o : Oper) cs b, ops[j]? = some o → o.op ≠ .select cs b)
    (hQ : ∀ c a w, Q (.panic c) (a.put oi.dst v) w → Q (.panic c) a w)
    (hind : ∀ L w, SL (L.setIfInBounds i true) w → SL L w)
    (hSi : ∀ L w, (∀ j oj, ops[j]? = some oj → (∃ e ∈ oj.after, Region.binds md e = true ∧ e.on = i) → L.getD j true = false) → SL L w → Si w) :
    ∀ (fuel : Nat) (listed : Array Bool) (a : Act) (w : World),
      (∀ j oj, ops[j]? = some oj → (∃ e ∈ oj.after, Region.binds md e = true ∧ e.on = i) → listed.getD j true = false) →
      (∀ j oj, ops[j]? = some oj → j ≠ i → listed.getD j true = false → (∀ e ∈ oj.after, Region.binds md e = true → e.on ≠ i) → oi.apart ops oj = true) →
      i ∈ Region.ready md ops listed → YieldsIf P ops Si oi v a → SL listed w → SL (listed.setIfInBounds i true) w →
      wpAnyL P md ops Q SL fuel (listed.setIfInBounds i true) (a.put oi.dst v) w → wpAnyL P md ops Q SL (fuel + 1) listed a w := by
  intro fuel
  induction fuel with
  | zero =>
    intro listed a w hwt _ hr hy hS hS' H
    refine ⟨fun h => (by rw [h] at hr; cases hr), fun j hj => ?_⟩
    by_cases hji : j = i
    · subst hji; exact hy.wpOp hi (hSi listed w hwt hS) ⟨hS', H⟩
    · have := ready_mono hj hji
      rw [H.1] at this
      cases this
  | succ fuel ih =>
    intro listed a w hwt hfree hr hy hS hS' H
    refine ⟨fun h => (by rw [h] at hr; cases hr), fun j hj => ?_⟩
    by_cases hji : j = i
    · subst hji; exact hy.wpOp hi (hSi listed w hwt hS) ⟨hS', H⟩
    · have h1 := H.2 j (ready_mono hj hji)
      obtain ⟨hjun, oj, hoj, hall⟩ := mem_ready.1 hj
      have hnot : ∀ e ∈ oj.after, Region.binds md e = true → e.on ≠ i := fun e he hb heq => by
        have h1 := hall e he hb
        have h0 := (mem_ready.1 hr).1
        rw [heq] at h1
        rcases Nat.lt_or_ge i listed.size with h' | h'
        · simp [h'] at h0 h1; rw [h0] at h1; cases h1
        · simp [Array.getElem?_eq_none h'] at h1
      have h2 := wpOp_putIf hoj (hfree j oj hoj hji hjun hnot) (fun cs b => hsel i oi cs b hi) (fun cs b => hsel j oj cs b hoj) hQ hy h1
      have hfree' : ∀ k ok, ops[k]? = some ok → k ≠ i → (listed.setIfInBounds j true).getD k true = false →
          (∀ e ∈ ok.after, Region.binds md e = true → e.on ≠ i) → oi.apart ops ok = true := fun k ok hk hki hun hno => by
        refine hfree k ok hk hki ?_ hno
        by_cases hjk : j = k
        · subst hjk; exact hjun
        · rw [getD_set_ne true hjk] at hun; exact hun
      have hwt' : ∀ k ok, ops[k]? = some ok → (∃ e ∈ ok.after, Region.binds md e = true ∧ e.on = i) → (listed.setIfInBounds j true).getD k true = false := fun k ok hk he => by
        by_cases hjk : j = k
        · subst hjk
          obtain ⟨e, he1, he2, he3⟩ := he
          rw [hoj] at hk; cases hk
          exact absurd he3 (hnot e he1 he2)
        · rw [getD_set_ne true hjk]; exact hwt k ok hk he
      refine wpOp_mono (fun a' w' h3 => ?_) h2
      have hcomm : (listed.setIfInBounds i true).setIfInBounds j true = (listed.setIfInBounds j true).setIfInBounds i true := Array.setIfInBounds_comm _ _ (fun e => hji e.symm)
      have hSj' : SL ((listed.setIfInBounds j true).setIfInBounds i true) w' := by rw [← hcomm]; exact h3.2.1
      have hSj : SL (listed.setIfInBounds j true) w' := hind _ _ hSj'
      refine ⟨hSj, ih (listed.setIfInBounds j true) a' w' hwt' hfree' (ready_mono hr (Ne.symm hji)) h3.1 hSj hSj' ?_⟩
      rw [← hcomm]
      exact h3.2.2

theorem waits_spec {i : Nat} {listed : Array Bool} (h : waitsB md ops i listed = true) : ∀ j oj, ops[j]? = some oj → (∃ e ∈ oj.after, Region.binds md e = true ∧ e.on = i) → listed.getD j true = false := by
  intro j oj hj ⟨e, he1, he2, he3⟩
  have hlt : j < ops.size := by
    rcases Nat.lt_or_ge j ops.size with h' | h'
    · exact h'
    · rw [Array.getElem?_eq_none h'] at hj; cases hj
  have := List.all_eq_true.1 h j (List.mem_range.2 hlt)
  rw [hj] at this
  simp only [Bool.or_eq_true, Bool.not_eq_true'] at this
  rcases this with h1 | h1
  · have : (oj.after.any fun e => Region.binds md e && e.on == i) = true := by
      rw [Array.any_eq_true']
      exact ⟨e, he1, by simp [he2, he3]⟩
    rw [this] at h1; cases h1
  · exact h1

/-- Take number i first. -/
theorem wpAnyL_take {i : Nat} {oi : Oper} {v : Value} {fuel : Nat} {listed : Array Bool} {a : Act} {w : World} (Si : World → Prop) (hi : ops[i]? = some oi)
    (hs : Region.noSelect ops = true) (hf : Region.free md ops listed i = true) (hr : (Region.ready md ops listed).contains i = true) (hwt : waitsB md ops i listed = true)
    (hQ : ∀ c a w, Q (.panic c) (a.put oi.dst v) w → Q (.panic c) a w)
    (hind : ∀ L w, SL (L.setIfInBounds i true) w → SL L w) (hSi : ∀ L w, (∀ j oj, ops[j]? = some oj → (∃ e ∈ oj.after, Region.binds md e = true ∧ e.on = i) → L.getD j true = false) → SL L w → Si w)
    (hy : YieldsIf P ops Si oi v a) (hS : SL listed w) (hS' : SL (listed.setIfInBounds i true) w)
    (h : SL (listed.setIfInBounds i true) w → wpAnyL P md ops Q SL fuel (listed.setIfInBounds i true) (a.put oi.dst v) w) : wpAnyL P md ops Q SL (fuel + 1) listed a w :=
  wpAnyL_first hi (Region.noSelect_spec hs) hQ hind hSi fuel listed a w (waits_spec hwt) (Region.free_spec hi hf) (by simpa using hr) hy hS hS' (h hS')

def AllReadyL (P : Program) (md : Region.Mode) (ops : Array Oper) (Q : Exit → Act → World → Prop) (SL : Array Bool → World → Prop) (fuel : Nat) (listed : Array Bool) (a : Act) (w : World) (rs : List Nat) : Prop :=
  ∀ i ∈ rs, wpOp P ops Q i (fun a' w' => SL (listed.setIfInBounds i true) w' ∧ wpAnyL P md ops Q SL fuel (listed.setIfInBounds i true) a' w') a w
theorem AllReadyL.nil {fuel : Nat} {listed : Array Bool} {a : Act} {w : World} : AllReadyL P md ops Q SL fuel listed a w [] := fun _ h => by cases h
theorem AllReadyL.cons {fuel : Nat} {listed : Array Bool} {a : Act} {w : World} {i : Nat} {o : Oper} {rs : List Nat} (ho : ops[i]? = some o)
    (h : ∀ K' : Act → World → Prop, Shut (∀ a w, SL (listed.setIfInBounds i true) w → (SL (listed.setIfInBounds i true) w → wpAnyL P md ops Q SL fuel (listed.setIfInBounds i true) a w) → K' a w) → if Region.wanted o (yielded ops a.tmps) = true then Oper.wp P o a w K' Q else K' (a.put o.dst undef) w)
    (hs : AllReadyL P md ops Q SL fuel listed a w rs) : AllReadyL P md ops Q SL fuel listed a w (i :: rs) := fun j hj => by
  rcases List.mem_cons.1 hj with rfl | hj
  · exact wpOp_step ho (fun K' hK => h K' (fun a w hS hW => hK a w ⟨hS, hW hS⟩))
  · exact hs j hj
theorem wpAnyL_ready {rs : List Nat} {fuel : Nat} {listed : Array Bool} {a : Act} {w : World} (hr : Region.ready md ops listed = rs) (hne : rs ≠ [])
    (h : AllReadyL P md ops Q SL fuel listed a w rs) : wpAnyL P md ops Q SL (fuel + 1) listed a w := ⟨fun h0 => absurd (hr ▸ h0) hne, hr ▸ h⟩
theorem wpAnyL_done {listed : Array Bool} {a : Act} {w : World} (hr : Region.ready md ops listed = []) (h : Q .normal a w) :
    ∀ fuel, wpAnyL P md ops Q SL fuel listed a w
  | 0 => ⟨hr, h⟩
  | _ + 1 => ⟨fun _ => h, by rw [hr]; simp⟩
theorem wp_region_L {id : Nat} {a : Act} {w : World} (hm : P.follows .mixedOrders = true) (hS : SL (Array.replicate ops.size false) w.drew)
    (h : SL (Array.replicate ops.size false) w.drew → wpAnyL P .any ops Q SL ops.size (Array.replicate ops.size false) a w.drew) : (Code.region id ops true).wp P Q a w :=
  wp_region_any hm (wpAny_of_L _ _ _ _ (h hS))

end
end Go.Proofs.Rg

namespace Go.Proofs.YtkfphmhnaelflacGreatDoor.Id
open Go.ChangeShapes Go.WideShapes Go.ChangeAt Go.RowKit Go.Proofs.Fa

theorem info_extR : (Tryz.prog.info? 56).map (fun i => (i.zero, i.size, i.bytes)) = some (some (.agg #[.int .i64 0, .int .i64 0]), 2, 16) := by kernel_rfl
theorem wpH_append {P : Program} {o : Oper} {a : Act} {w w' : World} {tm : Nat → Option Bool} {K : Act → World → Prop} {Q : Exit → Act → World → Prop} {s x : Operand} {t : TypeId} {v v2 v' : Value} (hwant : Region.wanted o tm = true)
    (ho : o.op = .call { callee := .builtin .append, args := #[s, x], argTypes := #[t, t] }) (hs : a.eval s = v) (hx : a.eval x = v2) (hr : (Builtin.append_ #[t, t] o.type #[v, v2]).run P w = .ok v' w') (hK : K (a.put o.dst v') w') :
    if Region.wanted o tm = true then Oper.wp P o a w K Q else K (a.put o.dst undef) w := by
  rw [if_pos hwant]
  unfold Oper.wp execOp
  simp only [ho, resolve, invoke, builtin, Sem.run_bind, Sem.run_pure, Result.andThen_ok, List.map_toArray, List.map_cons, List.map_nil, hs, hx, hr]
  exact hK
/-- The first extents of those that came in. -/
def lst (L : Nat → Ext) (k : Nat) : List Ext := (List.range k).map L
theorem lst_succ (L : Nat → Ext) (k : Nat) : lst L (k + 1) = lst L k ++ [L k] := by unfold lst; rw [List.range_succ]; simp
theorem lst_length (L : Nat → Ext) (k : Nat) : (lst L k).length = k := by simp [lst]

/-- The four inodes of both: the two under way, the two results. -/
structure F4 (w wr : World) (ver : Int) (av bv : Value) : Prop where
  a : wr.heap[w.heap.size + 1 + 1]? = some (.cells #[.int .i64 ver, av] 26 (0, 0))
  b : wr.heap[w.heap.size + 1 + 1 + 1]? = some (.cells #[.int .i64 ver, bv] 29 (0, 0))
  ra : wr.heap[w.heap.size]? = some (.cells #[.int .i64 0, .slice none 0 0] 26 (0, 0))
  rb : wr.heap[w.heap.size + 1]? = some (.cells #[.int .i64 0, .slice none 0 0] 29 (0, 0))
  below : Below w.heap.size w wr
theorem F4.alloc {w wr : World} {ver : Int} {av bv : Value} (h : F4 w wr ver av bv) (o : Obj) : F4 w (wr.alloc o) ver av bv :=
  ⟨(Below.heap_alloc _ _ _ (lt_of_heap h.a)).trans h.a, (Below.heap_alloc _ _ _ (lt_of_heap h.b)).trans h.b, (Below.heap_alloc _ _ _ (lt_of_heap h.ra)).trans h.ra, (Below.heap_alloc _ _ _ (lt_of_heap h.rb)).trans h.rb, h.below.alloc h.below.size o⟩
theorem F4.grown {w wr w5 : World} {ver : Int} {av bv : Value} {row : Option Nat} (h : F4 w wr ver av bv) (hg : wr.grownBy w5 row) (hr : ∀ g, row = some g → w.heap.size + 4 ≤ g) : F4 w w5 ver av bv :=
  ⟨(hg.block _ (lt_of_heap h.a) (fun e => by have := hr _ e.symm; omega)).trans h.a, (hg.block _ (lt_of_heap h.b) (fun e => by have := hr _ e.symm; omega)).trans h.b, (hg.block _ (lt_of_heap h.ra) (fun e => by have := hr _ e.symm; omega)).trans h.ra, (hg.block _ (lt_of_heap h.rb) (fun e => by have := hr _ e.symm; omega)).trans h.rb,
    h.below.grown hg h.below.size (fun k e => by have := hr k e; omega)⟩
theorem F4.setA {w wr : World} {ver : Int} {av bv : Value} (h : F4 w wr ver av bv) (v : Value) : F4 w (wr.setCell ⟨w.heap.size + 1 + 1, 1, none⟩ v) ver v bv :=
  ⟨heap_setCell_same _ _ 1 _ _ _ h.a, (heap_setCell_other _ ⟨w.heap.size + 1 + 1, 1, none⟩ _ _ (by show w.heap.size + 1 + 1 + 1 ≠ w.heap.size + 1 + 1; omega)).trans h.b, (heap_setCell_other _ ⟨w.heap.size + 1 + 1, 1, none⟩ _ _ (by show w.heap.size ≠ w.heap.size + 1 + 1; omega)).trans h.ra, (heap_setCell_other _ ⟨w.heap.size + 1 + 1, 1, none⟩ _ _ (by show w.heap.size + 1 ≠ w.heap.size + 1 + 1; omega)).trans h.rb, h.below.setCell (p := ⟨w.heap.size + 1 + 1, 1, none⟩) (by show w.heap.size ≤ w.heap.size + 1 + 1; omega) _⟩
theorem F4.setB {w wr : World} {ver : Int} {av bv : Value} (h : F4 w wr ver av bv) (v : Value) : F4 w (wr.setCell ⟨w.heap.size + 1 + 1 + 1, 1, none⟩ v) ver av v :=
  ⟨(heap_setCell_other _ ⟨w.heap.size + 1 + 1 + 1, 1, none⟩ _ _ (by show w.heap.size + 1 + 1 ≠ w.heap.size + 1 + 1 + 1; omega)).trans h.a, heap_setCell_same _ _ 1 _ _ _ h.b, (heap_setCell_other _ ⟨w.heap.size + 1 + 1 + 1, 1, none⟩ _ _ (by show w.heap.size ≠ w.heap.size + 1 + 1 + 1; omega)).trans h.ra, (heap_setCell_other _ ⟨w.heap.size + 1 + 1 + 1, 1, none⟩ _ _ (by show w.heap.size + 1 ≠ w.heap.size + 1 + 1 + 1; omega)).trans h.rb, h.below.setCell (p := ⟨w.heap.size + 1 + 1 + 1, 1, none⟩) (by show w.heap.size ≤ w.heap.size + 1 + 1 + 1; omega) _⟩
theorem row_setFar {w wr : World} {e n k : Nat} {v u : Value} {xs : List Value} (h : wr.ownsRow (w.heap.size + 4) e 2 v n xs) (hk : k < w.heap.size + 4) : (wr.setCell ⟨k, 1, none⟩ u).ownsRow (w.heap.size + 4) e 2 v n xs :=
  row_keep h (fun g hg => heap_setCell_other _ ⟨k, 1, none⟩ g _ (by have := row_ge h g hg; show g ≠ k; omega))
/-- Rows of two types are apart. -/
theorem row_grown {wr w5 : World} {base e e' n n' : Nat} {v v' : Value} {xs xs' : List Value} (hne : e ≠ e') (h : wr.ownsRow base e 2 v n xs) (h' : wr.ownsRow base e' 2 v' n' xs') (hg : wr.grownBy w5 v'.ownBlock) : w5.ownsRow base e 2 v n xs := by
  refine row_keep h (fun g hgb => hg.block g (row_lt h g hgb) (fun e2 => ?_))
  rcases h.2 with ⟨rfl, _⟩ | ⟨g1, cap1, cur1, rfl, _, hg1, _⟩
  · cases hgb
  · cases hgb
    rcases h'.2 with ⟨rfl, _⟩ | ⟨g2, cap2, cur2, rfl, _, hg2, _⟩
    · cases e2
    · have : g1 = g2 := by simpa [Value.ownBlock] using e2
      subst this
      rw [hg1] at hg2
      injection hg2 with hh
      injection hh with _ h3
      exact hne h3
theorem lit_grown {wr w5 : World} {base e e' n' b : Nat} {v' : Value} {c : Array Value} {xs' : List Value} (hne : e ≠ e') (h : wr.heap[b]? = some (.cells c e (0, 0))) (h' : wr.ownsRow base e' 2 v' n' xs') (hg : wr.grownBy w5 v'.ownBlock) : w5.heap[b]? = some (.cells c e (0, 0)) := by
  refine (hg.block b (lt_of_heap h) (fun e2 => ?_)).trans h
  rcases h'.2 with ⟨rfl, _⟩ | ⟨g2, cap2, cur2, rfl, _, hg2, _⟩
  · cases e2
  · have : b = g2 := by simpa [Value.ownBlock] using e2
    subst this
    rw [h] at hg2
    injection hg2 with hh
    injection hh with _ h3
    exact hne h3
theorem cells_lit {W : World} {b : Nat} {v0 v1 : Value} {t : TypeId} (h : W.heap[b]? = some (.cells #[v0, v1] t (0, 0))) (j : Nat) (u : Value) (hj : [v0, v1][j]? = some u) : W.cell? ((⟨b, 0, none⟩ : Addr).add j) = some u := by
  have e : (⟨b, 0, none⟩ : Addr).add j = ⟨b, j, none⟩ := by simp [Addr.add_lit]
  rw [e]
  exact cell_of_heap h j u (by simpa using hj)

/-- What the round's statement reads, as long as it isn't stored into. -/
def SLd (A Bb : Nat) (p0 p1 : Addr) (x0 x1 av bv : Value) (L : Array Bool) (W : World) : Prop :=
  (W.cell? p0 = some x0 ∧ W.cell? p1 = some x1) ∧ (L.getD 17 true = false → W.cell? ⟨A, 1, none⟩ = some av) ∧ (L.getD 19 true = false → W.cell? ⟨Bb, 1, none⟩ = some bv)
theorem sl_ind {A Bb : Nat} {p0 p1 : Addr} {x0 x1 av bv : Value} {i : Nat} (h17 : i ≠ 17) (h19 : i ≠ 19) : ∀ (L : Array Bool) (W : World), SLd A Bb p0 p1 x0 x1 av bv (L.setIfInBounds i true) W → SLd A Bb p0 p1 x0 x1 av bv L W := fun L W h =>
  ⟨h.1, fun e => h.2.1 (by rw [getD_set_ne true h17]; exact e), fun e => h.2.2 (by rw [getD_set_ne true h19]; exact e)⟩
theorem sl_put {A Bb : Nat} {p0 p1 : Addr} {x0 x1 av bv : Value} {i : Nat} (h17 : i ≠ 17) (h19 : i ≠ 19) {L : Array Bool} {W : World} (h : SLd A Bb p0 p1 x0 x1 av bv L W) : SLd A Bb p0 p1 x0 x1 av bv (L.setIfInBounds i true) W :=
  ⟨h.1, fun e => h.2.1 (by rw [getD_set_ne true h17] at e; exact e), fun e => h.2.2 (by rw [getD_set_ne true h19] at e; exact e)⟩

variable {w : World} {B : Nat}
set_option maxRecDepth 100000
set_option maxHeartbeats 1000000

theorem res_both (tm : Array Value) (b : Nat) (W : World) (ver : Int) (aa ba : Option Addr) (n m c d : Nat) (h4 : tm[4]? = some (.pointer (some ⟨b, 0, none⟩))) (h5 : tm[5]? = some (.pointer (some ⟨b + 1, 0, none⟩))) (h : W.heap[b]? = some (.cells #[.int .i64 ver, .slice aa n c] 26 (0, 0))) (h' : W.heap[b + 1]? = some (.cells #[.int .i64 ver, .slice ba m d] 29 (0, 0))) :
    (results Tryz.f6 tm).run Tryz.prog W = .ok (.tuple #[ino ver (.slice aa n c), ino ver (.slice ba m d)]) W := by
  obtain ⟨c0, c1, _⟩ := agg2 h
  obtain ⟨d0, d1, _⟩ := agg2 h'
  clear h h'
  simp [results, Tryz.f6, go_sem, h4, h5, c0, c1, d0, d1, ino]

theorem both_any (ver : Int) (a : Option Addr) (len cap : Nat) (L : Nat → Ext) (hI : ItemsAt w a len L) :
    Calls Tryz.prog 6 #[.int .i64 ver, .slice a len cap] w fun r w' => (∃ av bv, r = .returned (.tuple #[ino ver av, ino ver bv]) ∧ Row w' w.heap.size av (lst L (min len 40)) ∧ RowR w' w.heap.size bv (lst L (min len 40))) ∧ Below w.heap.size w w' := by
  obtain ⟨i0, hi, hz0, hz1, hz2⟩ := info_parts info_ext
  obtain ⟨j0, hj, hy0, hy1, hy2⟩ := info_parts info_extR
  have HI0 : Hid (ItemsAt w a len L) := hI
  clear hI
  obtain ⟨w0, hw0⟩ : ∃ w0, w0 = (((w.alloc (Obj.cells #[.int .i64 0, .slice none 0 0] 26)).alloc (Obj.cells #[.int .i64 0, .slice none 0 0] 29)).alloc (Obj.cells #[.int .i64 ver, .slice none 0 0] 26)).alloc (Obj.cells #[.int .i64 ver, .slice none 0 0] 29) := ⟨_, rfl⟩
  have HB0 : Hid (F4 w w0 ver (.slice none 0 0) (.slice none 0 0)) := by
    rw [hw0]
    have s1 := heap_alloc_new (w.alloc (Obj.cells #[.int .i64 0, .slice none 0 0] 26)) (Obj.cells #[.int .i64 0, .slice none 0 0] 29)
    have s2 := heap_alloc_new ((w.alloc (Obj.cells #[.int .i64 0, .slice none 0 0] 26)).alloc (Obj.cells #[.int .i64 0, .slice none 0 0] 29)) (Obj.cells #[.int .i64 ver, .slice none 0 0] 26)
    have s3 := heap_alloc_new (((w.alloc (Obj.cells #[.int .i64 0, .slice none 0 0] 26)).alloc (Obj.cells #[.int .i64 0, .slice none 0 0] 29)).alloc (Obj.cells #[.int .i64 ver, .slice none 0 0] 26)) (Obj.cells #[.int .i64 ver, .slice none 0 0] 29)
    simp only [World.size_alloc] at s1 s2 s3
    refine ⟨(Below.heap_alloc _ _ _ (by simp)).trans s2, s3, ?_, ?_, ?_⟩
    · exact (((Below.heap_alloc _ _ _ (by simp; omega)).trans (Below.heap_alloc _ _ _ (by simp; omega))).trans (Below.heap_alloc _ _ _ (by simp))).trans (heap_alloc_new w _)
    · exact ((Below.heap_alloc _ _ _ (by simp)).trans (Below.heap_alloc _ _ _ (by simp))).trans s1
    · exact ((((Below.refl _ _).alloc (Nat.le_refl _) _).alloc (by simp) _).alloc (by simp; omega) _).alloc (by simp; omega) _
  go_enter Tryz.func6, Tryz.ntmps6
  go_wp2_with fail
  rw [← hw0]
  clear hw0
  go_loopw [8] (fun i wr => ∃ (k : Nat) (aa ba : Option Addr) (ac bc : Nat), (k ≤ len ∧ k ≤ 40) ∧ i = .int .i64 k ∧ F4 w wr ver (.slice aa k ac) (.slice ba k bc) ∧ Row wr (w.heap.size + 4) (.slice aa k ac) (lst L k) ∧ RowR wr (w.heap.size + 4) (.slice ba k bc) (lst L k)) (fun i _ => 40 - (intOf i).toNat)
  case atStart => exact ⟨0, none, none, 0, 0, ⟨Nat.zero_le _, by omega⟩, rfl, HB0.out, World.ownsRow_nil _ _ _ _, World.ownsRow_nil _ _ _ _⟩
  case round =>
    obtain ⟨k, aa, ba, ac, bc, ⟨hk1, hk2⟩, rfl, hBI, hra, hrb⟩ := hrel
    have HBI : Hid (F4 w wr ver (.slice aa k ac) (.slice ba k bc)) := hBI
    have HRA : Hid (wr.ownsRow (w.heap.size + 4) 51 2 (.slice aa k ac) k (ecells (lst L k))) := by have h := hra; unfold Row at h; rw [lst_length] at h; exact h
    have HRB : Hid (wr.ownsRow (w.heap.size + 4) 56 2 (.slice ba k bc) k (ecells (lst L k))) := by have h := hrb; unfold RowR at h; rw [lst_length] at h; exact h
    clear HB0 hBI hra hrb
    by_cases hlt : k < len ∧ k < 40
    · obtain ⟨hl1, hl2⟩ := hlt
      have hl1' : (k : Int) < (len : Int) := by omega
      have hl2' : (k : Int) < 40 := by omega
      have hIk := HI0.out.below HBI.out.below (Nat.le_refl _)
      rcases hIk.1 with h0 | ⟨ib, off, rfl, _, hc⟩
      · omega
      · obtain ⟨i0', i1'⟩ := hc k hl1
        clear hIk hc
        obtain ⟨it, hit⟩ : ∃ it, L k = it := ⟨_, rfl⟩
        have HLk : Hid (L k = it) := hit
        rw [hit] at i0' i1'
        clear hit
        obtain ⟨ip, il⟩ := it
        dsimp only at i0' i1'
        have HIT : Hid (∀ W, Below w.heap.size w W → W.cell? ⟨ib, off + k * 2, none⟩ = some (.int .i64 ip) ∧ W.cell? ⟨ib, off + k * 2 + 1, none⟩ = some (.int .i64 il)) := by
          intro W hW
          have hIW := HI0.out.below hW (Nat.le_refl _)
          rcases hIW.1 with h0 | ⟨ib', off', e, _, hc⟩
          · omega
          · cases e
            have := hc k hl1
            rw [HLk.out] at this
            exact this
        have HSL : Hid (∀ W Lx, F4 w W ver (.slice aa k ac) (.slice ba k bc) → SLd (w.heap.size + 1 + 1) (w.heap.size + 1 + 1 + 1) ⟨ib, off + k * 2, none⟩ ⟨ib, off + k * 2 + 1, none⟩ (.int .i64 ip) (.int .i64 il) (.slice aa k ac) (.slice ba k bc) Lx W) := fun W Lx h => ⟨HIT.out W h.below, fun _ => cell_of_heap h.a 1 _ rfl, fun _ => cell_of_heap h.b 1 _ rfl⟩
        have hneT : 51 ≠ 56 := by decide
        have hneT' : 56 ≠ 51 := by decide
        clear i0' i1'
        go_wp2
        have HROW : Hid (∀ (W : World) v, W.ownsRow (w.heap.size + 4) 51 2 v (k + 1) (ecells (lst L k) ++ [.int .i64 ip, .int .i64 il]) → Row W (w.heap.size + 4) v (lst L (k + 1))) := fun W v h => by unfold Row; rw [lst_length, lst_succ, ecells_append, HLk.out]; exact h
        have HROWR : Hid (∀ (W : World) v, W.ownsRow (w.heap.size + 4) 56 2 v (k + 1) (ecells (lst L k) ++ [.int .i64 ip, .int .i64 il]) → RowR W (w.heap.size + 4) v (lst L (k + 1))) := fun W v h => by unfold RowR; rw [lst_length, lst_succ, ecells_append, HLk.out]; exact h
        refine Rg.wp_region_L (SL := SLd (w.heap.size + 1 + 1) (w.heap.size + 1 + 1 + 1) ⟨ib, off + k * 2, none⟩ ⟨ib, off + k * 2 + 1, none⟩ (.int .i64 ip) (.int .i64 il) (.slice aa k ac) (.slice ba k bc)) (by kernel_rfl) (HSL.out _ _ ⟨HBI.out.a, HBI.out.b, HBI.out.ra, HBI.out.rb, HBI.out.below.drew⟩) (fun hHeld => ?_)
        change Rg.wpAnyL _ _ _ _ _ 20 (Array.replicate 20 false) _ _
        refine Rg.wpAnyL_take (i := 0) (oi := _) (v := _) (fun _ => True) (by simp only [List.getElem?_toArray, List.getElem?_cons_zero]; rfl) (by kernel_rfl) (by kernel_rfl) (by kernel_rfl) (by kernel_rfl) (by exact fun _ _ _ h => h) (sl_ind (by decide) (by decide)) (fun _ _ _ _ => trivial) (Or.inl ⟨by rfl, by intro w' hSw; (try dsimp only at hSw); first | (go_simp; done) | (go_simp; with_reducible rfl)⟩) hHeld (sl_put (by decide) (by decide) hHeld) (fun hHeld => ?_)
        simp only [Act.put, List.setIfInBounds_toArray, List.set_cons_zero, List.set_cons_succ]
        refine Rg.wpAnyL_take (i := 1) (oi := _) (v := _) (fun W => W.cell? ⟨w.heap.size + 1 + 1, 1, none⟩ = some (.slice aa k ac)) (by simp only [List.getElem?_toArray, List.getElem?_cons_succ, List.getElem?_cons_zero]; rfl) (by kernel_rfl) (by kernel_rfl) (by kernel_rfl) (by kernel_rfl) (by exact fun _ _ _ h => h) (sl_ind (by decide) (by decide)) (fun _ _ hL h => h.2.1 (hL 17 _ (by simp only [List.getElem?_toArray, List.getElem?_cons_succ, List.getElem?_cons_zero]; rfl) ⟨{ on := 1, ground := .phase }, by simp, by rfl, rfl⟩)) (Or.inl ⟨by rfl, by intro w' hSw; (try dsimp only at hSw); first | (go_simp; done) | (go_simp; with_reducible rfl)⟩) hHeld (sl_put (by decide) (by decide) hHeld) (fun hHeld => ?_)
        simp only [Act.put, List.setIfInBounds_toArray, List.set_cons_zero, List.set_cons_succ]
        refine Rg.wpAnyL_take (i := 2) (oi := _) (v := _) (fun _ => True) (by simp only [List.getElem?_toArray, List.getElem?_cons_succ, List.getElem?_cons_zero]; rfl) (by kernel_rfl) (by kernel_rfl) (by kernel_rfl) (by kernel_rfl) (by exact fun _ _ _ h => h) (sl_ind (by decide) (by decide)) (fun _ _ _ _ => trivial) (Or.inl ⟨by rfl, by intro w' hSw; (try dsimp only at hSw); first | (go_simp; done) | (go_simp; with_reducible rfl)⟩) hHeld (sl_put (by decide) (by decide) hHeld) (fun hHeld => ?_)
        simp only [Act.put, List.setIfInBounds_toArray, List.set_cons_zero, List.set_cons_succ]
        refine Rg.wpAnyL_take (i := 3) (oi := _) (v := _) (fun _ => True) (by simp only [List.getElem?_toArray, List.getElem?_cons_succ, List.getElem?_cons_zero]; rfl) (by kernel_rfl) (by kernel_rfl) (by kernel_rfl) (by kernel_rfl) (by exact fun _ _ _ h => h) (sl_ind (by decide) (by decide)) (fun _ _ _ _ => trivial) (Or.inl ⟨by rfl, by intro w' hSw; (try dsimp only at hSw); first | (go_simp; done) | (go_simp; with_reducible rfl)⟩) hHeld (sl_put (by decide) (by decide) hHeld) (fun hHeld => ?_)
        simp only [Act.put, List.setIfInBounds_toArray, List.set_cons_zero, List.set_cons_succ]
        refine Rg.wpAnyL_take (i := 4) (oi := _) (v := _) (fun _ => True) (by simp only [List.getElem?_toArray, List.getElem?_cons_succ, List.getElem?_cons_zero]; rfl) (by kernel_rfl) (by kernel_rfl) (by kernel_rfl) (by kernel_rfl) (by exact fun _ _ _ h => h) (sl_ind (by decide) (by decide)) (fun _ _ _ _ => trivial) (Or.inl ⟨by rfl, by intro w' hSw; (try dsimp only at hSw); first | (go_simp; done) | (go_simp; with_reducible rfl)⟩) hHeld (sl_put (by decide) (by decide) hHeld) (fun hHeld => ?_)
        simp only [Act.put, List.setIfInBounds_toArray, List.set_cons_zero, List.set_cons_succ]
        refine Rg.wpAnyL_take (i := 5) (oi := _) (v := _) (fun W => W.cell? ⟨ib, off + k * 2, none⟩ = some (.int .i64 ip) ∧ W.cell? ⟨ib, off + k * 2 + 1, none⟩ = some (.int .i64 il)) (by simp only [List.getElem?_toArray, List.getElem?_cons_succ, List.getElem?_cons_zero]; rfl) (by kernel_rfl) (by kernel_rfl) (by kernel_rfl) (by kernel_rfl) (by exact fun _ _ _ h => h) (sl_ind (by decide) (by decide)) (fun _ _ _ h => h.1) (Or.inl ⟨by rfl, by intro w' hSw; (try dsimp only at hSw); first | (go_simp; done) | (go_simp; with_reducible rfl)⟩) hHeld (sl_put (by decide) (by decide) hHeld) (fun hHeld => ?_)
        simp only [Act.put, List.setIfInBounds_toArray, List.set_cons_zero, List.set_cons_succ]
        refine Rg.wpAnyL_take (i := 8) (oi := _) (v := _) (fun _ => True) (by simp only [List.getElem?_toArray, List.getElem?_cons_succ, List.getElem?_cons_zero]; rfl) (by kernel_rfl) (by kernel_rfl) (by kernel_rfl) (by kernel_rfl) (by exact fun _ _ _ h => h) (sl_ind (by decide) (by decide)) (fun _ _ _ _ => trivial) (Or.inl ⟨by rfl, by intro w' hSw; (try dsimp only at hSw); first | (go_simp; done) | (go_simp; with_reducible rfl)⟩) hHeld (sl_put (by decide) (by decide) hHeld) (fun hHeld => ?_)
        simp only [Act.put, List.setIfInBounds_toArray, List.set_cons_zero, List.set_cons_succ]
        refine Rg.wpAnyL_take (i := 9) (oi := _) (v := _) (fun W => W.cell? ⟨w.heap.size + 1 + 1 + 1, 1, none⟩ = some (.slice ba k bc)) (by simp only [List.getElem?_toArray, List.getElem?_cons_succ, List.getElem?_cons_zero]; rfl) (by kernel_rfl) (by kernel_rfl) (by kernel_rfl) (by kernel_rfl) (by exact fun _ _ _ h => h) (sl_ind (by decide) (by decide)) (fun _ _ hL h => h.2.2 (hL 19 _ (by simp only [List.getElem?_toArray, List.getElem?_cons_succ, List.getElem?_cons_zero]; rfl) ⟨{ on := 9, ground := .phase }, by simp, by rfl, rfl⟩)) (Or.inl ⟨by rfl, by intro w' hSw; (try dsimp only at hSw); first | (go_simp; done) | (go_simp; with_reducible rfl)⟩) hHeld (sl_put (by decide) (by decide) hHeld) (fun hHeld => ?_)
        simp only [Act.put, List.setIfInBounds_toArray, List.set_cons_zero, List.set_cons_succ]
        refine Rg.wpAnyL_take (i := 10) (oi := _) (v := _) (fun _ => True) (by simp only [List.getElem?_toArray, List.getElem?_cons_succ, List.getElem?_cons_zero]; rfl) (by kernel_rfl) (by kernel_rfl) (by kernel_rfl) (by kernel_rfl) (by exact fun _ _ _ h => h) (sl_ind (by decide) (by decide)) (fun _ _ _ _ => trivial) (Or.inl ⟨by rfl, by intro w' hSw; (try dsimp only at hSw); first | (go_simp; done) | (go_simp; with_reducible rfl)⟩) hHeld (sl_put (by decide) (by decide) hHeld) (fun hHeld => ?_)
        simp only [Act.put, List.setIfInBounds_toArray, List.set_cons_zero, List.set_cons_succ]
        refine Rg.wpAnyL_take (i := 11) (oi := _) (v := _) (fun _ => True) (by simp only [List.getElem?_toArray, List.getElem?_cons_succ, List.getElem?_cons_zero]; rfl) (by kernel_rfl) (by kernel_rfl) (by kernel_rfl) (by kernel_rfl) (by exact fun _ _ _ h => h) (sl_ind (by decide) (by decide)) (fun _ _ _ _ => trivial) (Or.inl ⟨by rfl, by intro w' hSw; (try dsimp only at hSw); first | (go_simp; done) | (go_simp; with_reducible rfl)⟩) hHeld (sl_put (by decide) (by decide) hHeld) (fun hHeld => ?_)
        simp only [Act.put, List.setIfInBounds_toArray, List.set_cons_zero, List.set_cons_succ]
        refine Rg.wpAnyL_take (i := 12) (oi := _) (v := _) (fun _ => True) (by simp only [List.getElem?_toArray, List.getElem?_cons_succ, List.getElem?_cons_zero]; rfl) (by kernel_rfl) (by kernel_rfl) (by kernel_rfl) (by kernel_rfl) (by exact fun _ _ _ h => h) (sl_ind (by decide) (by decide)) (fun _ _ _ _ => trivial) (Or.inl ⟨by rfl, by intro w' hSw; (try dsimp only at hSw); first | (go_simp; done) | (go_simp; with_reducible rfl)⟩) hHeld (sl_put (by decide) (by decide) hHeld) (fun hHeld => ?_)
        simp only [Act.put, List.setIfInBounds_toArray, List.set_cons_zero, List.set_cons_succ]
        refine Rg.wpAnyL_take (i := 13) (oi := _) (v := _) (fun W => W.cell? ⟨ib, off + k * 2, none⟩ = some (.int .i64 ip) ∧ W.cell? ⟨ib, off + k * 2 + 1, none⟩ = some (.int .i64 il)) (by simp only [List.getElem?_toArray, List.getElem?_cons_succ, List.getElem?_cons_zero]; rfl) (by kernel_rfl) (by kernel_rfl) (by kernel_rfl) (by kernel_rfl) (by exact fun _ _ _ h => h) (sl_ind (by decide) (by decide)) (fun _ _ _ h => h.1) (Or.inl ⟨by rfl, by intro w' hSw; (try dsimp only at hSw); first | (go_simp; done) | (go_simp; with_reducible rfl)⟩) hHeld (sl_put (by decide) (by decide) hHeld) (fun hHeld => ?_)
        simp only [Act.put, List.setIfInBounds_toArray, List.set_cons_zero, List.set_cons_succ]
        refine Rg.wpAnyL_ready (rs := [6, 14]) (by kernel_rfl) (by simp) ?_
        refine (Rg.AllReadyL.cons (o := _) (by simp only [List.getElem?_toArray, List.getElem?_cons_succ, List.getElem?_cons_zero]; rfl) (fun K hK => ?_) (Rg.AllReadyL.cons (o := _) (by simp only [List.getElem?_toArray, List.getElem?_cons_succ, List.getElem?_cons_zero]; rfl) (fun K hK => ?_) Rg.AllReadyL.nil))
        · skip
          go_simp
          go_wp2_with fail
          obtain ⟨W1, hW1⟩ : ∃ W1, W1 = (wr.alloc (Obj.cells #[.int .i64 ip, .int .i64 il] 51)).drew := ⟨_, rfl⟩
          have FW1 : Hid (F4 w W1 ver (.slice aa k ac) (.slice ba k bc)) := by rw [hW1]; have hh := HBI.out.alloc (Obj.cells #[.int .i64 ip, .int .i64 il] 51); exact ⟨hh.a, hh.b, hh.ra, hh.rb, hh.below.drew⟩
          have AW1 : Hid (W1.ownsRow (w.heap.size + 4) 51 2 (.slice aa k ac) k (ecells (lst L k))) := by rw [hW1]; exact World.ownsRow.drew (World.ownsRow.alloc HRA.out _)
          have BW1 : Hid (W1.ownsRow (w.heap.size + 4) 56 2 (.slice ba k bc) k (ecells (lst L k))) := by rw [hW1]; exact World.ownsRow.drew (World.ownsRow.alloc HRB.out _)
          have hLW1 : W1.heap[wr.heap.size]? = some (.cells #[.int .i64 ip, .int .i64 il] 51 (0, 0)) := by rw [hW1]; exact heap_alloc_new _ _
          obtain ⟨lW1, hlW1⟩ : ∃ lW1, lW1 = wr.heap.size := ⟨_, rfl⟩
          rw [← hlW1] at hLW1
          have LW1 : Hid (W1.heap[lW1]? = some (.cells #[.int .i64 ip, .int .i64 il] 51 (0, 0))) := hLW1
          rw [← hW1, ← hlW1]
          clear hW1 hLW1 hlW1
          refine hK.out _ _ (HSL.out _ _ FW1.out) (fun hHeld => ?_)
          clear hK K
          try simp only [Act.put, List.setIfInBounds_toArray, List.set_cons_zero, List.set_cons_succ]
          refine Rg.wpAnyL_ready (rs := [7, 14]) (by kernel_rfl) (by simp) ?_
          refine (Rg.AllReadyL.cons (o := _) (by simp only [List.getElem?_toArray, List.getElem?_cons_succ, List.getElem?_cons_zero]; rfl) (fun K hK => ?_) (Rg.AllReadyL.cons (o := _) (by simp only [List.getElem?_toArray, List.getElem?_cons_succ, List.getElem?_cons_zero]; rfl) (fun K hK => ?_) Rg.AllReadyL.nil))
          · skip
            obtain ⟨vW2, W2, hrW2, hoW2, hgW2, hnW2⟩ := run_append_near (P := Tryz.prog) W1 (w.heap.size + 4) 24 24 51 i0 _ 2 16 Tryz.underlying24 hi hz0 hz1 hz2 rfl (by decide) (.slice aa k ac) k (ecells (lst L k)) AW1.out ⟨lW1, 0, none⟩ 1 1 [.int .i64 ip, .int .i64 il] rfl (cells_lit LW1.out) (by intro u hu; simp only [List.mem_cons, List.not_mem_nil, or_false] at hu; rcases hu with rfl | rfl <;> rfl) (by unfold maxLen; omega) (by omega) (by have := lt_of_heap FW1.out.b; omega)
            refine wpH_append (by rfl) rfl rfl rfl hrW2 ?_
            have FW2 : Hid (F4 w W2 ver (.slice aa k ac) (.slice ba k bc)) := FW1.out.grown hgW2 (fun g e => row_ge AW1.out g e)
            obtain ⟨aW2, cW2, hvW2, _⟩ := row_slice hoW2
            subst hvW2
            have AW2 : Hid (W2.ownsRow (w.heap.size + 4) 51 2 (.slice aW2 (k + 1) cW2) (k + 1) (ecells (lst L k) ++ [.int .i64 ip, .int .i64 il])) := hoW2
            have BW2 : Hid (W2.ownsRow (w.heap.size + 4) 56 2 (.slice ba k bc) k (ecells (lst L k))) := row_grown hneT' BW1.out AW1.out hgW2
            refine hK.out _ _ (HSL.out _ _ FW2.out) (fun hHeld => ?_)
            clear hK K hrW2 hoW2 hgW2 hnW2
            simp only [Act.put, List.setIfInBounds_toArray, List.set_cons_zero, List.set_cons_succ]
            refine Rg.wpAnyL_take (i := 16) (oi := _) (v := _) (fun _ => True) (by simp only [List.getElem?_toArray, List.getElem?_cons_succ, List.getElem?_cons_zero]; rfl) (by kernel_rfl) (by kernel_rfl) (by kernel_rfl) (by kernel_rfl) (by exact fun _ _ _ h => h) (sl_ind (by decide) (by decide)) (fun _ _ _ _ => trivial) (Or.inl ⟨by rfl, by intro w' hSw; (try dsimp only at hSw); first | (go_simp; done) | (go_simp; with_reducible rfl)⟩) hHeld (sl_put (by decide) (by decide) hHeld) (fun hHeld => ?_)
            simp only [Act.put, List.setIfInBounds_toArray, List.set_cons_zero, List.set_cons_succ]
            refine Rg.wpAnyL_ready (rs := [14]) (by kernel_rfl) (by simp) ?_
            refine (Rg.AllReadyL.cons (o := _) (by simp only [List.getElem?_toArray, List.getElem?_cons_succ, List.getElem?_cons_zero]; rfl) (fun K hK => ?_) Rg.AllReadyL.nil)
            go_simp
            go_wp2_with fail
            obtain ⟨W3, hW3⟩ : ∃ W3, W3 = (W2.alloc (Obj.cells #[.int .i64 ip, .int .i64 il] 56)) := ⟨_, rfl⟩
            have FW3 : Hid (F4 w W3 ver (.slice aa k ac) (.slice ba k bc)) := by rw [hW3]; have hh := FW2.out.alloc (Obj.cells #[.int .i64 ip, .int .i64 il] 56); exact ⟨hh.a, hh.b, hh.ra, hh.rb, hh.below⟩
            have AW3 : Hid (W3.ownsRow (w.heap.size + 4) 51 2 (.slice aW2 (k + 1) cW2) (k + 1) (ecells (lst L k) ++ [.int .i64 ip, .int .i64 il])) := by rw [hW3]; exact (World.ownsRow.alloc AW2.out _)
            have BW3 : Hid (W3.ownsRow (w.heap.size + 4) 56 2 (.slice ba k bc) k (ecells (lst L k))) := by rw [hW3]; exact (World.ownsRow.alloc BW2.out _)
            have hLW3 : W3.heap[W2.heap.size]? = some (.cells #[.int .i64 ip, .int .i64 il] 56 (0, 0)) := by rw [hW3]; exact heap_alloc_new _ _
            obtain ⟨lW3, hlW3⟩ : ∃ lW3, lW3 = W2.heap.size := ⟨_, rfl⟩
            rw [← hlW3] at hLW3
            have LW3 : Hid (W3.heap[lW3]? = some (.cells #[.int .i64 ip, .int .i64 il] 56 (0, 0))) := hLW3
            rw [← hW3, ← hlW3]
            clear hW3 hLW3 hlW3
            refine hK.out _ _ (HSL.out _ _ FW3.out) (fun hHeld => ?_)
            clear hK K
            try simp only [Act.put, List.setIfInBounds_toArray, List.set_cons_zero, List.set_cons_succ]
            refine Rg.wpAnyL_ready (rs := [15]) (by kernel_rfl) (by simp) ?_
            refine (Rg.AllReadyL.cons (o := _) (by simp only [List.getElem?_toArray, List.getElem?_cons_succ, List.getElem?_cons_zero]; rfl) (fun K hK => ?_) Rg.AllReadyL.nil)
            obtain ⟨vW4, W4, hrW4, hoW4, hgW4, hnW4⟩ := run_append_near (P := Tryz.prog) W3 (w.heap.size + 4) 27 27 56 j0 _ 2 16 Tryz.underlying27 hj hy0 hy1 hy2 rfl (by decide) (.slice ba k bc) k (ecells (lst L k)) BW3.out ⟨lW3, 0, none⟩ 1 1 [.int .i64 ip, .int .i64 il] rfl (cells_lit LW3.out) (by intro u hu; simp only [List.mem_cons, List.not_mem_nil, or_false] at hu; rcases hu with rfl | rfl <;> rfl) (by unfold maxLen; omega) (by omega) (by have := lt_of_heap FW3.out.b; omega)
            refine wpH_append (by rfl) rfl rfl rfl hrW4 ?_
            have FW4 : Hid (F4 w W4 ver (.slice aa k ac) (.slice ba k bc)) := FW3.out.grown hgW4 (fun g e => row_ge BW3.out g e)
            obtain ⟨aW4, cW4, hvW4, _⟩ := row_slice hoW4
            subst hvW4
            have BW4 : Hid (W4.ownsRow (w.heap.size + 4) 56 2 (.slice aW4 (k + 1) cW4) (k + 1) (ecells (lst L k) ++ [.int .i64 ip, .int .i64 il])) := hoW4
            have AW4 : Hid (W4.ownsRow (w.heap.size + 4) 51 2 (.slice aW2 (k + 1) cW2) (k + 1) (ecells (lst L k) ++ [.int .i64 ip, .int .i64 il])) := row_grown hneT AW3.out BW3.out hgW4
            refine hK.out _ _ (HSL.out _ _ FW4.out) (fun hHeld => ?_)
            clear hK K hrW4 hoW4 hgW4 hnW4
            simp only [Act.put, List.setIfInBounds_toArray, List.set_cons_zero, List.set_cons_succ]
            refine Rg.wpAnyL_ready (rs := [17]) (by kernel_rfl) (by simp) ?_
            refine (Rg.AllReadyL.cons (o := _) (by simp only [List.getElem?_toArray, List.getElem?_cons_succ, List.getElem?_cons_zero]; rfl) (fun K hK => ?_) Rg.AllReadyL.nil)
            obtain ⟨p0, p1, p2, p3⟩ := agg2 FW4.out.a
            go_simp
            go_wp2_with fail
            obtain ⟨W5, hW5⟩ : ∃ W5, W5 = W4.setCell ⟨w.heap.size + 1 + 1, 1, none⟩ (.slice aW2 (k + 1) cW2) := ⟨_, rfl⟩
            have FW5 : Hid (F4 w W5 ver (.slice aW2 (k + 1) cW2) (.slice ba k bc)) := by rw [hW5]; exact FW4.out.setA _
            have AW5 : Hid (W5.ownsRow (w.heap.size + 4) 51 2 (.slice aW2 (k + 1) cW2) (k + 1) (ecells (lst L k) ++ [.int .i64 ip, .int .i64 il])) := by rw [hW5]; exact row_setFar AW4.out (by omega)
            have BW5 : Hid (W5.ownsRow (w.heap.size + 4) 56 2 (.slice aW4 (k + 1) cW4) (k + 1) (ecells (lst L k) ++ [.int .i64 ip, .int .i64 il])) := by rw [hW5]; exact row_setFar BW4.out (by omega)
            rw [← hW5]
            clear hW5 p0 p1 p2 p3
            refine hK.out _ _ ⟨HIT.out _ FW5.out.below, fun h => absurd h (by decide), fun _ => cell_of_heap FW5.out.b 1 _ rfl⟩ (fun hHeld => ?_)
            clear hK K
            try simp only [Act.put, List.setIfInBounds_toArray, List.set_cons_zero, List.set_cons_succ]
            refine Rg.wpAnyL_take (i := 18) (oi := _) (v := _) (fun _ => True) (by simp only [List.getElem?_toArray, List.getElem?_cons_succ, List.getElem?_cons_zero]; rfl) (by kernel_rfl) (by kernel_rfl) (by kernel_rfl) (by kernel_rfl) (by exact fun _ _ _ h => h) (sl_ind (by decide) (by decide)) (fun _ _ _ _ => trivial) (Or.inl ⟨by rfl, by intro w' hSw; (try dsimp only at hSw); first | (go_simp; done) | (go_simp; with_reducible rfl)⟩) hHeld (sl_put (by decide) (by decide) hHeld) (fun hHeld => ?_)
            simp only [Act.put, List.setIfInBounds_toArray, List.set_cons_zero, List.set_cons_succ]
            refine Rg.wpAnyL_ready (rs := [19]) (by kernel_rfl) (by simp) ?_
            refine (Rg.AllReadyL.cons (o := _) (by simp only [List.getElem?_toArray, List.getElem?_cons_succ, List.getElem?_cons_zero]; rfl) (fun K hK => ?_) Rg.AllReadyL.nil)
            obtain ⟨p0, p1, p2, p3⟩ := agg2 FW5.out.b
            go_simp
            go_wp2_with fail
            obtain ⟨W6, hW6⟩ : ∃ W6, W6 = W5.setCell ⟨w.heap.size + 1 + 1 + 1, 1, none⟩ (.slice aW4 (k + 1) cW4) := ⟨_, rfl⟩
            have FW6 : Hid (F4 w W6 ver (.slice aW2 (k + 1) cW2) (.slice aW4 (k + 1) cW4)) := by rw [hW6]; exact FW5.out.setB _
            have AW6 : Hid (W6.ownsRow (w.heap.size + 4) 51 2 (.slice aW2 (k + 1) cW2) (k + 1) (ecells (lst L k) ++ [.int .i64 ip, .int .i64 il])) := by rw [hW6]; exact row_setFar AW5.out (by omega)
            have BW6 : Hid (W6.ownsRow (w.heap.size + 4) 56 2 (.slice aW4 (k + 1) cW4) (k + 1) (ecells (lst L k) ++ [.int .i64 ip, .int .i64 il])) := by rw [hW6]; exact row_setFar BW5.out (by omega)
            rw [← hW6]
            clear hW6 p0 p1 p2 p3
            refine hK.out _ _ ⟨HIT.out _ FW6.out.below, fun h => absurd h (by decide), fun h => absurd h (by decide)⟩ (fun hHeld => ?_)
            clear hK K
            try simp only [Act.put, List.setIfInBounds_toArray, List.set_cons_zero, List.set_cons_succ]
            refine Rg.wpAnyL_done (by kernel_rfl) ?_ _
            clear hHeld
            go_wp2
            go_roundw
            case rel => exact ⟨k + 1, aW2, aW4, cW2, cW4, ⟨by omega, by omega⟩, by go_num, FW6.out, HROW.out _ _ AW6.out, HROWR.out _ _ BW6.out⟩
            case measure => simp [intOf]; omega
          · skip
            go_simp
            go_wp2_with fail
            obtain ⟨W7, hW7⟩ : ∃ W7, W7 = (W1.alloc (Obj.cells #[.int .i64 ip, .int .i64 il] 56)) := ⟨_, rfl⟩
            have FW7 : Hid (F4 w W7 ver (.slice aa k ac) (.slice ba k bc)) := by rw [hW7]; have hh := FW1.out.alloc (Obj.cells #[.int .i64 ip, .int .i64 il] 56); exact ⟨hh.a, hh.b, hh.ra, hh.rb, hh.below⟩
            have AW7 : Hid (W7.ownsRow (w.heap.size + 4) 51 2 (.slice aa k ac) k (ecells (lst L k))) := by rw [hW7]; exact (World.ownsRow.alloc AW1.out _)
            have BW7 : Hid (W7.ownsRow (w.heap.size + 4) 56 2 (.slice ba k bc) k (ecells (lst L k))) := by rw [hW7]; exact (World.ownsRow.alloc BW1.out _)
            have hLW7 : W7.heap[W1.heap.size]? = some (.cells #[.int .i64 ip, .int .i64 il] 56 (0, 0)) := by rw [hW7]; exact heap_alloc_new _ _
            obtain ⟨lW7, hlW7⟩ : ∃ lW7, lW7 = W1.heap.size := ⟨_, rfl⟩
            rw [← hlW7] at hLW7
            have LW7 : Hid (W7.heap[lW7]? = some (.cells #[.int .i64 ip, .int .i64 il] 56 (0, 0))) := hLW7
            have MW7 : Hid (W7.heap[lW1]? = some (.cells #[.int .i64 ip, .int .i64 il] 51 (0, 0))) := by rw [hW7]; exact (Below.heap_alloc _ _ _ (lt_of_heap LW1.out)).trans LW1.out
            rw [← hW7, ← hlW7]
            clear hW7 hLW7 hlW7
            refine hK.out _ _ (HSL.out _ _ FW7.out) (fun hHeld => ?_)
            clear hK K
            try simp only [Act.put, List.setIfInBounds_toArray, List.set_cons_zero, List.set_cons_succ]
            refine Rg.wpAnyL_ready (rs := [7]) (by kernel_rfl) (by simp) ?_
            refine (Rg.AllReadyL.cons (o := _) (by simp only [List.getElem?_toArray, List.getElem?_cons_succ, List.getElem?_cons_zero]; rfl) (fun K hK => ?_) Rg.AllReadyL.nil)
            obtain ⟨vW8, W8, hrW8, hoW8, hgW8, hnW8⟩ := run_append_near (P := Tryz.prog) W7 (w.heap.size + 4) 24 24 51 i0 _ 2 16 Tryz.underlying24 hi hz0 hz1 hz2 rfl (by decide) (.slice aa k ac) k (ecells (lst L k)) AW7.out ⟨lW1, 0, none⟩ 1 1 [.int .i64 ip, .int .i64 il] rfl (cells_lit MW7.out) (by intro u hu; simp only [List.mem_cons, List.not_mem_nil, or_false] at hu; rcases hu with rfl | rfl <;> rfl) (by unfold maxLen; omega) (by omega) (by have := lt_of_heap FW7.out.b; omega)
            refine wpH_append (by rfl) rfl rfl rfl hrW8 ?_
            have FW8 : Hid (F4 w W8 ver (.slice aa k ac) (.slice ba k bc)) := FW7.out.grown hgW8 (fun g e => row_ge AW7.out g e)
            obtain ⟨aW8, cW8, hvW8, _⟩ := row_slice hoW8
            subst hvW8
            have AW8 : Hid (W8.ownsRow (w.heap.size + 4) 51 2 (.slice aW8 (k + 1) cW8) (k + 1) (ecells (lst L k) ++ [.int .i64 ip, .int .i64 il])) := hoW8
            have BW8 : Hid (W8.ownsRow (w.heap.size + 4) 56 2 (.slice ba k bc) k (ecells (lst L k))) := row_grown hneT' BW7.out AW7.out hgW8
            have MW8 : Hid (W8.heap[lW7]? = some (.cells #[.int .i64 ip, .int .i64 il] 56 (0, 0))) := lit_grown hneT' LW7.out AW7.out hgW8
            refine hK.out _ _ (HSL.out _ _ FW8.out) (fun hHeld => ?_)
            clear hK K hrW8 hoW8 hgW8 hnW8
            simp only [Act.put, List.setIfInBounds_toArray, List.set_cons_zero, List.set_cons_succ]
            refine Rg.wpAnyL_take (i := 16) (oi := _) (v := _) (fun _ => True) (by simp only [List.getElem?_toArray, List.getElem?_cons_succ, List.getElem?_cons_zero]; rfl) (by kernel_rfl) (by kernel_rfl) (by kernel_rfl) (by kernel_rfl) (by exact fun _ _ _ h => h) (sl_ind (by decide) (by decide)) (fun _ _ _ _ => trivial) (Or.inl ⟨by rfl, by intro w' hSw; (try dsimp only at hSw); first | (go_simp; done) | (go_simp; with_reducible rfl)⟩) hHeld (sl_put (by decide) (by decide) hHeld) (fun hHeld => ?_)
            simp only [Act.put, List.setIfInBounds_toArray, List.set_cons_zero, List.set_cons_succ]
            refine Rg.wpAnyL_ready (rs := [15]) (by kernel_rfl) (by simp) ?_
            refine (Rg.AllReadyL.cons (o := _) (by simp only [List.getElem?_toArray, List.getElem?_cons_succ, List.getElem?_cons_zero]; rfl) (fun K hK => ?_) Rg.AllReadyL.nil)
            obtain ⟨vW9, W9, hrW9, hoW9, hgW9, hnW9⟩ := run_append_near (P := Tryz.prog) W8 (w.heap.size + 4) 27 27 56 j0 _ 2 16 Tryz.underlying27 hj hy0 hy1 hy2 rfl (by decide) (.slice ba k bc) k (ecells (lst L k)) BW8.out ⟨lW7, 0, none⟩ 1 1 [.int .i64 ip, .int .i64 il] rfl (cells_lit MW8.out) (by intro u hu; simp only [List.mem_cons, List.not_mem_nil, or_false] at hu; rcases hu with rfl | rfl <;> rfl) (by unfold maxLen; omega) (by omega) (by have := lt_of_heap FW8.out.b; omega)
            refine wpH_append (by rfl) rfl rfl rfl hrW9 ?_
            have FW9 : Hid (F4 w W9 ver (.slice aa k ac) (.slice ba k bc)) := FW8.out.grown hgW9 (fun g e => row_ge BW8.out g e)
            obtain ⟨aW9, cW9, hvW9, _⟩ := row_slice hoW9
            subst hvW9
            have BW9 : Hid (W9.ownsRow (w.heap.size + 4) 56 2 (.slice aW9 (k + 1) cW9) (k + 1) (ecells (lst L k) ++ [.int .i64 ip, .int .i64 il])) := hoW9
            have AW9 : Hid (W9.ownsRow (w.heap.size + 4) 51 2 (.slice aW8 (k + 1) cW8) (k + 1) (ecells (lst L k) ++ [.int .i64 ip, .int .i64 il])) := row_grown hneT AW8.out BW8.out hgW9
            refine hK.out _ _ (HSL.out _ _ FW9.out) (fun hHeld => ?_)
            clear hK K hrW9 hoW9 hgW9 hnW9
            simp only [Act.put, List.setIfInBounds_toArray, List.set_cons_zero, List.set_cons_succ]
            refine Rg.wpAnyL_ready (rs := [17]) (by kernel_rfl) (by simp) ?_
            refine (Rg.AllReadyL.cons (o := _) (by simp only [List.getElem?_toArray, List.getElem?_cons_succ, List.getElem?_cons_zero]; rfl) (fun K hK => ?_) Rg.AllReadyL.nil)
            obtain ⟨p0, p1, p2, p3⟩ := agg2 FW9.out.a
            go_simp
            go_wp2_with fail
            obtain ⟨W10, hW10⟩ : ∃ W10, W10 = W9.setCell ⟨w.heap.size + 1 + 1, 1, none⟩ (.slice aW8 (k + 1) cW8) := ⟨_, rfl⟩
            have FW10 : Hid (F4 w W10 ver (.slice aW8 (k + 1) cW8) (.slice ba k bc)) := by rw [hW10]; exact FW9.out.setA _
            have AW10 : Hid (W10.ownsRow (w.heap.size + 4) 51 2 (.slice aW8 (k + 1) cW8) (k + 1) (ecells (lst L k) ++ [.int .i64 ip, .int .i64 il])) := by rw [hW10]; exact row_setFar AW9.out (by omega)
            have BW10 : Hid (W10.ownsRow (w.heap.size + 4) 56 2 (.slice aW9 (k + 1) cW9) (k + 1) (ecells (lst L k) ++ [.int .i64 ip, .int .i64 il])) := by rw [hW10]; exact row_setFar BW9.out (by omega)
            rw [← hW10]
            clear hW10 p0 p1 p2 p3
            refine hK.out _ _ ⟨HIT.out _ FW10.out.below, fun h => absurd h (by decide), fun _ => cell_of_heap FW10.out.b 1 _ rfl⟩ (fun hHeld => ?_)
            clear hK K
            try simp only [Act.put, List.setIfInBounds_toArray, List.set_cons_zero, List.set_cons_succ]
            refine Rg.wpAnyL_take (i := 18) (oi := _) (v := _) (fun _ => True) (by simp only [List.getElem?_toArray, List.getElem?_cons_succ, List.getElem?_cons_zero]; rfl) (by kernel_rfl) (by kernel_rfl) (by kernel_rfl) (by kernel_rfl) (by exact fun _ _ _ h => h) (sl_ind (by decide) (by decide)) (fun _ _ _ _ => trivial) (Or.inl ⟨by rfl, by intro w' hSw; (try dsimp only at hSw); first | (go_simp; done) | (go_simp; with_reducible rfl)⟩) hHeld (sl_put (by decide) (by decide) hHeld) (fun hHeld => ?_)
            simp only [Act.put, List.setIfInBounds_toArray, List.set_cons_zero, List.set_cons_succ]
            refine Rg.wpAnyL_ready (rs := [19]) (by kernel_rfl) (by simp) ?_
            refine (Rg.AllReadyL.cons (o := _) (by simp only [List.getElem?_toArray, List.getElem?_cons_succ, List.getElem?_cons_zero]; rfl) (fun K hK => ?_) Rg.AllReadyL.nil)
            obtain ⟨p0, p1, p2, p3⟩ := agg2 FW10.out.b
            go_simp
            go_wp2_with fail
            obtain ⟨W11, hW11⟩ : ∃ W11, W11 = W10.setCell ⟨w.heap.size + 1 + 1 + 1, 1, none⟩ (.slice aW9 (k + 1) cW9) := ⟨_, rfl⟩
            have FW11 : Hid (F4 w W11 ver (.slice aW8 (k + 1) cW8) (.slice aW9 (k + 1) cW9)) := by rw [hW11]; exact FW10.out.setB _
            have AW11 : Hid (W11.ownsRow (w.heap.size + 4) 51 2 (.slice aW8 (k + 1) cW8) (k + 1) (ecells (lst L k) ++ [.int .i64 ip, .int .i64 il])) := by rw [hW11]; exact row_setFar AW10.out (by omega)
            have BW11 : Hid (W11.ownsRow (w.heap.size + 4) 56 2 (.slice aW9 (k + 1) cW9) (k + 1) (ecells (lst L k) ++ [.int .i64 ip, .int .i64 il])) := by rw [hW11]; exact row_setFar BW10.out (by omega)
            rw [← hW11]
            clear hW11 p0 p1 p2 p3
            refine hK.out _ _ ⟨HIT.out _ FW11.out.below, fun h => absurd h (by decide), fun h => absurd h (by decide)⟩ (fun hHeld => ?_)
            clear hK K
            try simp only [Act.put, List.setIfInBounds_toArray, List.set_cons_zero, List.set_cons_succ]
            refine Rg.wpAnyL_done (by kernel_rfl) ?_ _
            clear hHeld
            go_wp2
            go_roundw
            case rel => exact ⟨k + 1, aW8, aW9, cW8, cW9, ⟨by omega, by omega⟩, by go_num, FW11.out, HROW.out _ _ AW11.out, HROWR.out _ _ BW11.out⟩
            case measure => simp [intOf]; omega
        · skip
          go_simp
          go_wp2_with fail
          obtain ⟨W12, hW12⟩ : ∃ W12, W12 = (wr.alloc (Obj.cells #[.int .i64 ip, .int .i64 il] 56)).drew := ⟨_, rfl⟩
          have FW12 : Hid (F4 w W12 ver (.slice aa k ac) (.slice ba k bc)) := by rw [hW12]; have hh := HBI.out.alloc (Obj.cells #[.int .i64 ip, .int .i64 il] 56); exact ⟨hh.a, hh.b, hh.ra, hh.rb, hh.below.drew⟩
          have AW12 : Hid (W12.ownsRow (w.heap.size + 4) 51 2 (.slice aa k ac) k (ecells (lst L k))) := by rw [hW12]; exact World.ownsRow.drew (World.ownsRow.alloc HRA.out _)
          have BW12 : Hid (W12.ownsRow (w.heap.size + 4) 56 2 (.slice ba k bc) k (ecells (lst L k))) := by rw [hW12]; exact World.ownsRow.drew (World.ownsRow.alloc HRB.out _)
          have hLW12 : W12.heap[wr.heap.size]? = some (.cells #[.int .i64 ip, .int .i64 il] 56 (0, 0)) := by rw [hW12]; exact heap_alloc_new _ _
          obtain ⟨lW12, hlW12⟩ : ∃ lW12, lW12 = wr.heap.size := ⟨_, rfl⟩
          rw [← hlW12] at hLW12
          have LW12 : Hid (W12.heap[lW12]? = some (.cells #[.int .i64 ip, .int .i64 il] 56 (0, 0))) := hLW12
          rw [← hW12, ← hlW12]
          clear hW12 hLW12 hlW12
          refine hK.out _ _ (HSL.out _ _ FW12.out) (fun hHeld => ?_)
          clear hK K
          try simp only [Act.put, List.setIfInBounds_toArray, List.set_cons_zero, List.set_cons_succ]
          refine Rg.wpAnyL_ready (rs := [6]) (by kernel_rfl) (by simp) ?_
          refine (Rg.AllReadyL.cons (o := _) (by simp only [List.getElem?_toArray, List.getElem?_cons_succ, List.getElem?_cons_zero]; rfl) (fun K hK => ?_) Rg.AllReadyL.nil)
          go_simp
          go_wp2_with fail
          obtain ⟨W13, hW13⟩ : ∃ W13, W13 = (W12.alloc (Obj.cells #[.int .i64 ip, .int .i64 il] 51)) := ⟨_, rfl⟩
          have FW13 : Hid (F4 w W13 ver (.slice aa k ac) (.slice ba k bc)) := by rw [hW13]; have hh := FW12.out.alloc (Obj.cells #[.int .i64 ip, .int .i64 il] 51); exact ⟨hh.a, hh.b, hh.ra, hh.rb, hh.below⟩
          have AW13 : Hid (W13.ownsRow (w.heap.size + 4) 51 2 (.slice aa k ac) k (ecells (lst L k))) := by rw [hW13]; exact (World.ownsRow.alloc AW12.out _)
          have BW13 : Hid (W13.ownsRow (w.heap.size + 4) 56 2 (.slice ba k bc) k (ecells (lst L k))) := by rw [hW13]; exact (World.ownsRow.alloc BW12.out _)
          have hLW13 : W13.heap[W12.heap.size]? = some (.cells #[.int .i64 ip, .int .i64 il] 51 (0, 0)) := by rw [hW13]; exact heap_alloc_new _ _
          obtain ⟨lW13, hlW13⟩ : ∃ lW13, lW13 = W12.heap.size := ⟨_, rfl⟩
          rw [← hlW13] at hLW13
          have LW13 : Hid (W13.heap[lW13]? = some (.cells #[.int .i64 ip, .int .i64 il] 51 (0, 0))) := hLW13
          have MW13 : Hid (W13.heap[lW12]? = some (.cells #[.int .i64 ip, .int .i64 il] 56 (0, 0))) := by rw [hW13]; exact (Below.heap_alloc _ _ _ (lt_of_heap LW12.out)).trans LW12.out
          rw [← hW13, ← hlW13]
          clear hW13 hLW13 hlW13
          refine hK.out _ _ (HSL.out _ _ FW13.out) (fun hHeld => ?_)
          clear hK K
          try simp only [Act.put, List.setIfInBounds_toArray, List.set_cons_zero, List.set_cons_succ]
          refine Rg.wpAnyL_ready (rs := [7]) (by kernel_rfl) (by simp) ?_
          refine (Rg.AllReadyL.cons (o := _) (by simp only [List.getElem?_toArray, List.getElem?_cons_succ, List.getElem?_cons_zero]; rfl) (fun K hK => ?_) Rg.AllReadyL.nil)
          obtain ⟨vW14, W14, hrW14, hoW14, hgW14, hnW14⟩ := run_append_near (P := Tryz.prog) W13 (w.heap.size + 4) 24 24 51 i0 _ 2 16 Tryz.underlying24 hi hz0 hz1 hz2 rfl (by decide) (.slice aa k ac) k (ecells (lst L k)) AW13.out ⟨lW13, 0, none⟩ 1 1 [.int .i64 ip, .int .i64 il] rfl (cells_lit LW13.out) (by intro u hu; simp only [List.mem_cons, List.not_mem_nil, or_false] at hu; rcases hu with rfl | rfl <;> rfl) (by unfold maxLen; omega) (by omega) (by have := lt_of_heap FW13.out.b; omega)
          refine wpH_append (by rfl) rfl rfl rfl hrW14 ?_
          have FW14 : Hid (F4 w W14 ver (.slice aa k ac) (.slice ba k bc)) := FW13.out.grown hgW14 (fun g e => row_ge AW13.out g e)
          obtain ⟨aW14, cW14, hvW14, _⟩ := row_slice hoW14
          subst hvW14
          have AW14 : Hid (W14.ownsRow (w.heap.size + 4) 51 2 (.slice aW14 (k + 1) cW14) (k + 1) (ecells (lst L k) ++ [.int .i64 ip, .int .i64 il])) := hoW14
          have BW14 : Hid (W14.ownsRow (w.heap.size + 4) 56 2 (.slice ba k bc) k (ecells (lst L k))) := row_grown hneT' BW13.out AW13.out hgW14
          have MW14 : Hid (W14.heap[lW12]? = some (.cells #[.int .i64 ip, .int .i64 il] 56 (0, 0))) := lit_grown hneT' MW13.out AW13.out hgW14
          refine hK.out _ _ (HSL.out _ _ FW14.out) (fun hHeld => ?_)
          clear hK K hrW14 hoW14 hgW14 hnW14
          simp only [Act.put, List.setIfInBounds_toArray, List.set_cons_zero, List.set_cons_succ]
          refine Rg.wpAnyL_take (i := 16) (oi := _) (v := _) (fun _ => True) (by simp only [List.getElem?_toArray, List.getElem?_cons_succ, List.getElem?_cons_zero]; rfl) (by kernel_rfl) (by kernel_rfl) (by kernel_rfl) (by kernel_rfl) (by exact fun _ _ _ h => h) (sl_ind (by decide) (by decide)) (fun _ _ _ _ => trivial) (Or.inl ⟨by rfl, by intro w' hSw; (try dsimp only at hSw); first | (go_simp; done) | (go_simp; with_reducible rfl)⟩) hHeld (sl_put (by decide) (by decide) hHeld) (fun hHeld => ?_)
          simp only [Act.put, List.setIfInBounds_toArray, List.set_cons_zero, List.set_cons_succ]
          refine Rg.wpAnyL_ready (rs := [15]) (by kernel_rfl) (by simp) ?_
          refine (Rg.AllReadyL.cons (o := _) (by simp only [List.getElem?_toArray, List.getElem?_cons_succ, List.getElem?_cons_zero]; rfl) (fun K hK => ?_) Rg.AllReadyL.nil)
          obtain ⟨vW15, W15, hrW15, hoW15, hgW15, hnW15⟩ := run_append_near (P := Tryz.prog) W14 (w.heap.size + 4) 27 27 56 j0 _ 2 16 Tryz.underlying27 hj hy0 hy1 hy2 rfl (by decide) (.slice ba k bc) k (ecells (lst L k)) BW14.out ⟨lW12, 0, none⟩ 1 1 [.int .i64 ip, .int .i64 il] rfl (cells_lit MW14.out) (by intro u hu; simp only [List.mem_cons, List.not_mem_nil, or_false] at hu; rcases hu with rfl | rfl <;> rfl) (by unfold maxLen; omega) (by omega) (by have := lt_of_heap FW14.out.b; omega)
          refine wpH_append (by rfl) rfl rfl rfl hrW15 ?_
          have FW15 : Hid (F4 w W15 ver (.slice aa k ac) (.slice ba k bc)) := FW14.out.grown hgW15 (fun g e => row_ge BW14.out g e)
          obtain ⟨aW15, cW15, hvW15, _⟩ := row_slice hoW15
          subst hvW15
          have BW15 : Hid (W15.ownsRow (w.heap.size + 4) 56 2 (.slice aW15 (k + 1) cW15) (k + 1) (ecells (lst L k) ++ [.int .i64 ip, .int .i64 il])) := hoW15
          have AW15 : Hid (W15.ownsRow (w.heap.size + 4) 51 2 (.slice aW14 (k + 1) cW14) (k + 1) (ecells (lst L k) ++ [.int .i64 ip, .int .i64 il])) := row_grown hneT AW14.out BW14.out hgW15
          refine hK.out _ _ (HSL.out _ _ FW15.out) (fun hHeld => ?_)
          clear hK K hrW15 hoW15 hgW15 hnW15
          simp only [Act.put, List.setIfInBounds_toArray, List.set_cons_zero, List.set_cons_succ]
          refine Rg.wpAnyL_ready (rs := [17]) (by kernel_rfl) (by simp) ?_
          refine (Rg.AllReadyL.cons (o := _) (by simp only [List.getElem?_toArray, List.getElem?_cons_succ, List.getElem?_cons_zero]; rfl) (fun K hK => ?_) Rg.AllReadyL.nil)
          obtain ⟨p0, p1, p2, p3⟩ := agg2 FW15.out.a
          go_simp
          go_wp2_with fail
          obtain ⟨W16, hW16⟩ : ∃ W16, W16 = W15.setCell ⟨w.heap.size + 1 + 1, 1, none⟩ (.slice aW14 (k + 1) cW14) := ⟨_, rfl⟩
          have FW16 : Hid (F4 w W16 ver (.slice aW14 (k + 1) cW14) (.slice ba k bc)) := by rw [hW16]; exact FW15.out.setA _
          have AW16 : Hid (W16.ownsRow (w.heap.size + 4) 51 2 (.slice aW14 (k + 1) cW14) (k + 1) (ecells (lst L k) ++ [.int .i64 ip, .int .i64 il])) := by rw [hW16]; exact row_setFar AW15.out (by omega)
          have BW16 : Hid (W16.ownsRow (w.heap.size + 4) 56 2 (.slice aW15 (k + 1) cW15) (k + 1) (ecells (lst L k) ++ [.int .i64 ip, .int .i64 il])) := by rw [hW16]; exact row_setFar BW15.out (by omega)
          rw [← hW16]
          clear hW16 p0 p1 p2 p3
          refine hK.out _ _ ⟨HIT.out _ FW16.out.below, fun h => absurd h (by decide), fun _ => cell_of_heap FW16.out.b 1 _ rfl⟩ (fun hHeld => ?_)
          clear hK K
          try simp only [Act.put, List.setIfInBounds_toArray, List.set_cons_zero, List.set_cons_succ]
          refine Rg.wpAnyL_take (i := 18) (oi := _) (v := _) (fun _ => True) (by simp only [List.getElem?_toArray, List.getElem?_cons_succ, List.getElem?_cons_zero]; rfl) (by kernel_rfl) (by kernel_rfl) (by kernel_rfl) (by kernel_rfl) (by exact fun _ _ _ h => h) (sl_ind (by decide) (by decide)) (fun _ _ _ _ => trivial) (Or.inl ⟨by rfl, by intro w' hSw; (try dsimp only at hSw); first | (go_simp; done) | (go_simp; with_reducible rfl)⟩) hHeld (sl_put (by decide) (by decide) hHeld) (fun hHeld => ?_)
          simp only [Act.put, List.setIfInBounds_toArray, List.set_cons_zero, List.set_cons_succ]
          refine Rg.wpAnyL_ready (rs := [19]) (by kernel_rfl) (by simp) ?_
          refine (Rg.AllReadyL.cons (o := _) (by simp only [List.getElem?_toArray, List.getElem?_cons_succ, List.getElem?_cons_zero]; rfl) (fun K hK => ?_) Rg.AllReadyL.nil)
          obtain ⟨p0, p1, p2, p3⟩ := agg2 FW16.out.b
          go_simp
          go_wp2_with fail
          obtain ⟨W17, hW17⟩ : ∃ W17, W17 = W16.setCell ⟨w.heap.size + 1 + 1 + 1, 1, none⟩ (.slice aW15 (k + 1) cW15) := ⟨_, rfl⟩
          have FW17 : Hid (F4 w W17 ver (.slice aW14 (k + 1) cW14) (.slice aW15 (k + 1) cW15)) := by rw [hW17]; exact FW16.out.setB _
          have AW17 : Hid (W17.ownsRow (w.heap.size + 4) 51 2 (.slice aW14 (k + 1) cW14) (k + 1) (ecells (lst L k) ++ [.int .i64 ip, .int .i64 il])) := by rw [hW17]; exact row_setFar AW16.out (by omega)
          have BW17 : Hid (W17.ownsRow (w.heap.size + 4) 56 2 (.slice aW15 (k + 1) cW15) (k + 1) (ecells (lst L k) ++ [.int .i64 ip, .int .i64 il])) := by rw [hW17]; exact row_setFar BW16.out (by omega)
          rw [← hW17]
          clear hW17 p0 p1 p2 p3
          refine hK.out _ _ ⟨HIT.out _ FW17.out.below, fun h => absurd h (by decide), fun h => absurd h (by decide)⟩ (fun hHeld => ?_)
          clear hK K
          try simp only [Act.put, List.setIfInBounds_toArray, List.set_cons_zero, List.set_cons_succ]
          refine Rg.wpAnyL_done (by kernel_rfl) ?_ _
          clear hHeld
          go_wp2
          go_roundw
          case rel => exact ⟨k + 1, aW14, aW15, cW14, cW15, ⟨by omega, by omega⟩, by go_num, FW17.out, HROW.out _ _ AW17.out, HROWR.out _ _ BW17.out⟩
          case measure => simp [intOf]; omega
    · have hmin : min len 40 = k := by omega
      have hend : (k : Int) < (len : Int) → ¬ (k : Int) < 40 := fun h1 h2 => hlt ⟨by omega, by omega⟩
      have HMIN : Hid (min len 40 = k) := hmin
      clear hlt HI0 hmin
      obtain ⟨a0, a1, a2, a3⟩ := agg2 HBI.out.a
      obtain ⟨b0, b1, b2, b3⟩ := agg2 HBI.out.b
      obtain ⟨r0, r1, r2, r3⟩ := agg2 HBI.out.ra
      obtain ⟨s0, s1, s2, s3⟩ := agg2 HBI.out.rb
      by_cases hA : (k : Int) < (len : Int)
      all_goals
        go_wp2
        go_region
        obtain ⟨w8, hw8⟩ : ∃ w8, w8 = ((((wr.setCell ⟨w.heap.size, 0, none⟩ (.int .i64 ver)).setCell ⟨w.heap.size, 1, none⟩ (.slice aa k ac)).setCell ⟨w.heap.size + 1, 0, none⟩ (.int .i64 ver)).setCell ⟨w.heap.size + 1, 1, none⟩ (.slice ba k bc)).drew := ⟨_, rfl⟩
        rw [← hw8]
        have H0 : w8.heap[w.heap.size]? = some (.cells #[.int .i64 ver, .slice aa k ac] 26 (0, 0)) := by rw [hw8]; exact (set2_other (by omega) _ _).trans (set2_heap HBI.out.ra _ _)
        have H1 : w8.heap[w.heap.size + 1]? = some (.cells #[.int .i64 ver, .slice ba k bc] 29 (0, 0)) := by rw [hw8]; exact set2_heap ((set2_other (by omega) _ _).trans HBI.out.rb) _ _
        have HB8 : Below w.heap.size w w8 := by rw [hw8]; exact (set2_below (set2_below HBI.out.below _ (Nat.le_refl _) _ _) _ (by omega) _ _).drew
        have HA8 : Row w8 (w.heap.size + 4) (.slice aa k ac) (lst L k) := by
          unfold Row; rw [lst_length, hw8]
          exact row_keep HRA.out (fun g e => by have := row_ge HRA.out g e; exact (set2_other (by omega) _ _).trans (set2_other (by omega) _ _))
        have HBB8 : RowR w8 (w.heap.size + 4) (.slice ba k bc) (lst L k) := by
          unfold RowR; rw [lst_length, hw8]
          exact row_keep HRB.out (fun g e => by have := row_ge HRB.out g e; exact (set2_other (by omega) _ _).trans (set2_other (by omega) _ _))
        have HH0 : Hid (_ = _) := H0
        have HH1 : Hid (_ = _) := H1
        have HHA : Hid (Row w8 (w.heap.size + 4) (.slice aa k ac) (lst L k)) := HA8
        have HHB : Hid (RowR w8 (w.heap.size + 4) (.slice ba k bc) (lst L k)) := HBB8
        have HHW : Hid (Below w.heap.size w w8) := HB8
        clear hw8 H0 H1 HA8 HBB8 HB8 a0 a1 a2 a3 b0 b1 b2 b3 r0 r1 r2 r3 s0 s1 s2 s3
        go_wp2
        refine bodyPost_ret (res_both _ w.heap.size _ ver aa ba k k ac bc rfl rfl HH0.out HH1.out) rfl ?_
        exact ⟨⟨_, _, rfl, by rw [HMIN.out]; exact row_base HHA.out (by omega), by rw [HMIN.out]; exact row_base HHB.out (by omega)⟩, HHW.out⟩

end Go.Proofs.YtkfphmhnaelflacGreatDoor.Id

namespace Go.Proofs.YtkfphmhnaelflacGreatDoor.Id
open Go.ChangeShapes Go.WideShapes Go.ChangeAt Go.RowKit Go.Proofs.Fa
open Go.Proofs.YtkfphmhnaelflacGreatDoor.As (ErrT)
open Go.Proofs.YtkfphmhnaelflacGreatDoor.Mk (NibAt sealS sealF openF open_seal padS padS_size)
open Go.Proofs.YtkfphmhnaelflacGreatDoor.Le (streq_yes)

set_option maxRecDepth 100000
set_option maxHeartbeats 4000000

/-- The two inodes of one list of extents. -/
structure PI (w W : World) (ab : Nat) (ver : Int) (v u : Value) (l : List Ext) : Prop where
  x : W.heap[ab]? = some (.cells #[.int .i64 ver, v] 26 (0, 0))
  y : W.heap[ab + 1]? = some (.cells #[.int .i64 ver, u] 29 (0, 0))
  rx : Row W 0 v l
  ry : RowR W 0 u l
  below : Below w.heap.size w W
theorem PI.step {w W W' : World} {ab : Nat} {ver : Int} {v u : Value} {l : List Ext} (h : PI w W ab ver v u l) (hb : Below W.heap.size W W') : PI w W' ab ver v u l :=
  ⟨(hb.block _ (lt_of_heap h.x)).trans h.x, (hb.block _ (lt_of_heap h.y)).trans h.y, row_below h.rx hb (Nat.le_refl _), row_below h.ry hb (Nat.le_refl _), h.below.trans (hb.mono h.below.size)⟩
theorem PI.drew {w W : World} {ab : Nat} {ver : Int} {v u : Value} {l : List Ext} (h : PI w W ab ver v u l) : PI w W.drew ab ver v u l :=
  ⟨h.x, h.y, World.ownsRow.drew h.rx, World.ownsRow.drew h.ry, h.below.drew⟩

theorem inodePuts_walk (ver : Int) (a : Option Addr) (len cap : Nat) (L : Nat → Ext) (s : Int) (w : World) (hI : ItemsAt w a len L) (hE : ErrT w) (hn : NibAt w) :
    Calls Tryz.prog 3 #[.int .i64 ver, .slice a len cap, .int .i64 s] w fun r w' => r = .returned (.bool true) ∧ Below w.heap.size w w' := by
  have HE : Hid (ErrT w) := hE
  have HN : Hid (NibAt w) := hn
  have HI0 : Hid (ItemsAt w a len L) := hI
  clear hE hn hI
  go_enter Tryz.func3, Tryz.ntmps3
  go_wp2_with fail
  refine (speaks_any _).mono ?_
  rintro r w1 ⟨rfl, hb1⟩
  have HB1 : Hid (Below w.heap.size w w1) := hb1
  clear hb1
  go_wp2_with fail
  refine (both_any (w := w1) ver a len cap L (HI0.out.below HB1.out (Nat.le_refl _))).mono ?_
  rintro r w2 ⟨⟨av, bv, rfl, hra, hrb⟩, hb2⟩
  obtain ⟨l, hl⟩ : ∃ l, lst L (min len 40) = l := ⟨_, rfl⟩
  have HWF : Hid (∀ e ∈ l, -9223372036854775808 ≤ e.pos ∧ e.pos ≤ 9223372036854775807) := by
    intro e he
    rw [← hl] at he
    obtain ⟨i, hi, rfl⟩ := List.mem_map.1 he
    have h2 := (HI0.out.2 i (by have := List.mem_range.1 hi; omega)).1
    simp only [Lit.wf, IntKind.min, IntKind.max, IntKind.signed, IntKind.bits, Bool.and_eq_true, decide_eq_true_eq, if_true] at h2
    omega
  obtain ⟨n, hn⟩ : ∃ n, l.length = n := ⟨_, rfl⟩
  have hn40 : n ≤ 40 := by rw [← hn, ← hl, lst_length]; omega
  have HLN : Hid (l.length ≤ 1000) := by show _ ≤ _; omega
  rw [hl] at hra hrb
  obtain ⟨aa, ac, hav, _⟩ := row_slice hra
  obtain ⟨ba, bc, hbv, _⟩ := row_slice hrb
  rw [hn] at hav hbv
  subst hav hbv
  rw [show ino ver (.slice aa n ac) = .agg #[.int .i64 ver, .slice aa n ac] from rfl, show ino ver (.slice ba n bc) = .agg #[.int .i64 ver, .slice ba n bc] from rfl]
  obtain ⟨w3, hw3⟩ : ∃ w3, w3 = (w2.alloc (Obj.cells #[.int .i64 ver, .slice aa n ac] 26)).alloc (Obj.cells #[.int .i64 ver, .slice ba n bc] 29) := ⟨_, rfl⟩
  have hb3 : Below w2.heap.size w2 w3 := by rw [hw3]; exact ((Below.refl _ _).alloc (Nat.le_refl _) _).alloc (by simp) _
  obtain ⟨ab, hab⟩ : ∃ ab, ab = w2.heap.size := ⟨_, rfl⟩
  have HP3 : Hid (PI w w3 ab ver (.slice aa n ac) (.slice ba n bc) l) := by
    refine ⟨?_, ?_, row_base (row_below hra hb3 (Nat.le_refl _)) (Nat.zero_le _), row_base (row_below hrb hb3 (Nat.le_refl _)) (Nat.zero_le _), (HB1.out.trans (hb2.mono HB1.out.size)).trans (hb3.mono (HB1.out.trans (hb2.mono HB1.out.size)).size)⟩
    · rw [hw3, hab]; exact (Below.heap_alloc _ _ _ (by simp)).trans (heap_alloc_new _ _)
    · rw [hw3, hab]
      have := heap_alloc_new (w2.alloc (Obj.cells #[.int .i64 ver, .slice aa n ac] 26)) (Obj.cells #[.int .i64 ver, .slice ba n bc] 29)
      rw [World.size_alloc] at this
      exact this
  clear hra hrb hb2 hb3 hl HB1 HI0
  have HRI : Hid (∀ W, PI w W ab ver (.slice aa n ac) (.slice ba n bc) l → Calls Tryz.prog 10 #[.agg #[.int .i64 ver, .slice aa n ac], .int .i64 s] W fun r w' => r = .returned (.bool (rightB ver l s)) ∧ Below W.heap.size W w') := fun W h => right_any (w := W) ver _ l s h.rx HLN.out HWF.out
  have HRR : Hid (∀ W, PI w W ab ver (.slice aa n ac) (.slice ba n bc) l → Calls Tryz.prog 11 #[.agg #[.int .i64 ver, .slice ba n bc], .int .i64 s] W fun r w' => r = .returned (.bool (rightB ver l s)) ∧ Below W.heap.size W w') := fun W h => refrightX_any (w := W) ver _ l s h.ry HLN.out
  obtain ⟨rs, hrs⟩ : ∃ x, rightB ver l s = x := ⟨_, rfl⟩
  rw [hrs] at HRI HRR
  clear hrs
  have hput : ∃ (sec b : ByteArray) (f : Int), Hid (∀ W, PI w W ab ver (.slice aa n ac) (.slice ba n bc) l → Calls Tryz.prog 7 #[.agg #[.int .i64 ver, .slice aa n ac]] W fun r w' => r = .returned (.tuple #[.string sec, errV f]) ∧ Below W.heap.size W w') ∧
      Hid (∀ W, PI w W ab ver (.slice aa n ac) (.slice ba n bc) l → Calls Tryz.prog 8 #[.agg #[.int .i64 ver, .slice ba n bc]] W fun r w' => r = .returned (.tuple #[.string sec, .int .i64 f]) ∧ Below W.heap.size W w') ∧
      Hid (f = 0 → openF 6 sec = (b, 0) ∧ b.size = 504) := by
    cases hp : rightB ver l 2048
    · refine ⟨ByteArray.empty, ByteArray.empty, 1, fun W h => put_no (w := W) ver _ l h.rx HLN.out HWF.out hp, fun W h => putR_no (w := W) ver _ l h.ry HLN.out hp, fun h => by cases h⟩
    · have hz := bodyI_size hp
      refine ⟨sealS 6 (bodyI ver l), padS (bodyI ver l), 0, fun W h => put_yes (w := W) ver _ l h.rx HWF.out hp (HN.out.below h.below), fun W h => putR_yes (w := W) ver _ l h.ry hp, fun _ => ⟨open_seal (by decide) (by decide) hz, padS_size hz⟩⟩
  obtain ⟨sec, b, f, HPU, HPR, HOP⟩ := hput
  have hC := fun w hE => code_any f w hE
  have HEV : Hid (f = 0 → errV f = .nilIface) := fun h => by rw [h]; rfl
  generalize errV f = ev at *
  have hq0 : (sec.toList == sec.toList) = true := streq_yes rfl
  have hq1 : (rs == rs) = true := by simp
  go_wp2_with fail
  rw [← hw3, ← hab]
  clear hw3 hab
  refine (HPU.out _ HP3.out).mono ?_
  rintro r w4 ⟨rfl, hb4⟩
  have HP4 : Hid (PI w w4 ab ver (.slice aa n ac) (.slice ba n bc) l) := HP3.out.step hb4
  clear hb4 HP3 HPU
  obtain ⟨y0, y1, _, _⟩ := agg2 HP4.out.y
  go_wp2_with fail
  refine (HPR.out _ HP4.out).mono ?_
  rintro r w5 ⟨rfl, hb5⟩
  have HP5 : Hid (PI w w5 ab ver (.slice aa n ac) (.slice ba n bc) l) := HP4.out.step hb5
  have HP5d : Hid (PI w w5.drew ab ver (.slice aa n ac) (.slice ba n bc) l) := HP5.out.drew
  clear hb5 HP4 HPR y0 y1
  obtain ⟨x0, x1, _, _⟩ := agg2 HP5.out.x
  obtain ⟨y0, y1, _, _⟩ := agg2 HP5.out.y
  go_wp2_with fail
  refine wp_region_held_drew (S := fun W => W.cell? ⟨ab, 0, none⟩ = some (.int .i64 ver) ∧ W.cell? ⟨ab, 1, none⟩ = some (.slice aa n ac) ∧ W.cell? ⟨ab + 1, 0, none⟩ = some (.int .i64 ver) ∧ W.cell? ⟨ab + 1, 1, none⟩ = some (.slice ba n bc)) (by kernel_rfl) (by exact ⟨x0, x1, y0, y1⟩) (fun hHeld => ?_)
  change wpAnyH _ _ _ _ _ 18 (Array.replicate 18 false) _ _
  refine wpAnyH_take (i := 0) (oi := _) (v := _) (by simp only [List.getElem?_toArray, List.getElem?_cons_zero]; rfl) (by kernel_rfl) (by kernel_rfl) (by kernel_rfl) (by exact fun _ _ _ h => h) (Or.inl ⟨by rfl, by intro w' hSw; (try dsimp only at hSw); first | (go_simp; done) | (go_simp; with_reducible rfl)⟩) hHeld ?_
  simp only [Act.put, List.setIfInBounds_toArray, List.set_cons_zero, List.set_cons_succ]
  refine wpAnyH_take (i := 1) (oi := _) (v := _) (by simp only [List.getElem?_toArray, List.getElem?_cons_succ, List.getElem?_cons_zero]; rfl) (by kernel_rfl) (by kernel_rfl) (by kernel_rfl) (by exact fun _ _ _ h => h) (Or.inl ⟨by rfl, by intro w' hSw; (try dsimp only at hSw); first | (go_simp; done) | (go_simp; with_reducible rfl)⟩) hHeld ?_
  simp only [Act.put, List.setIfInBounds_toArray, List.set_cons_zero, List.set_cons_succ]
  refine wpAnyH_take (i := 2) (oi := _) (v := _) (by simp only [List.getElem?_toArray, List.getElem?_cons_succ, List.getElem?_cons_zero]; rfl) (by kernel_rfl) (by kernel_rfl) (by kernel_rfl) (by exact fun _ _ _ h => h) (Or.inl ⟨by rfl, by intro w' hSw; (try dsimp only at hSw); first | (go_simp; done) | (go_simp; with_reducible rfl)⟩) hHeld ?_
  simp only [Act.put, List.setIfInBounds_toArray, List.set_cons_zero, List.set_cons_succ]
  refine wpAnyH_take (i := 3) (oi := _) (v := _) (by simp only [List.getElem?_toArray, List.getElem?_cons_succ, List.getElem?_cons_zero]; rfl) (by kernel_rfl) (by kernel_rfl) (by kernel_rfl) (by exact fun _ _ _ h => h) (Or.inl ⟨by rfl, by intro w' hSw; (try dsimp only at hSw); first | (go_simp; done) | (go_simp; with_reducible rfl)⟩) hHeld ?_
  simp only [Act.put, List.setIfInBounds_toArray, List.set_cons_zero, List.set_cons_succ]
  refine wpAnyH_take (i := 4) (oi := _) (v := _) (by simp only [List.getElem?_toArray, List.getElem?_cons_succ, List.getElem?_cons_zero]; rfl) (by kernel_rfl) (by kernel_rfl) (by kernel_rfl) (by exact fun _ _ _ h => h) (Or.inl ⟨by rfl, by intro w' hSw; (try dsimp only at hSw); first | (go_simp; done) | (go_simp; with_reducible rfl)⟩) hHeld ?_
  simp only [Act.put, List.setIfInBounds_toArray, List.set_cons_zero, List.set_cons_succ]
  refine wpAnyH_take (i := 6) (oi := _) (v := _) (by simp only [List.getElem?_toArray, List.getElem?_cons_succ, List.getElem?_cons_zero]; rfl) (by kernel_rfl) (by kernel_rfl) (by kernel_rfl) (by exact fun _ _ _ h => h) (Or.inl ⟨by rfl, by intro w' hSw; (try dsimp only at hSw); first | (go_simp; done) | (go_simp; with_reducible rfl)⟩) hHeld ?_
  simp only [Act.put, List.setIfInBounds_toArray, List.set_cons_zero, List.set_cons_succ]
  refine wpAnyH_ready (rs := [5]) (by kernel_rfl) (by simp) ?_
  refine AllReadyH.cons rfl (fun K hK => ?_) AllReadyH.nil
  go_simp
  go_wp2_with fail
  refine (hC _ (HE.out.below HP5d.out.below HE.out.lt)).mono ?_
  rintro r w6 ⟨rfl, hb6⟩
  have HP6 : Hid (PI w w6 ab ver (.slice aa n ac) (.slice ba n bc) l) := HP5d.out.step hb6
  refine hK.out _ _ ⟨(agg2 HP6.out.x).1, (agg2 HP6.out.x).2.1, (agg2 HP6.out.y).1, (agg2 HP6.out.y).2.1⟩ (fun hHeld => ?_)
  clear hK K hb6
  refine wpAnyH_take (i := 7) (oi := _) (v := _) (by simp only [List.getElem?_toArray, List.getElem?_cons_succ, List.getElem?_cons_zero]; rfl) (by kernel_rfl) (by kernel_rfl) (by kernel_rfl) (by exact fun _ _ _ h => h) (Or.inl ⟨by rfl, by intro w' hSw; (try dsimp only at hSw); first | (go_simp; done) | (go_simp; with_reducible rfl)⟩) hHeld ?_
  simp only [Act.put, List.setIfInBounds_toArray, List.set_cons_zero, List.set_cons_succ]
  refine wpAnyH_take (i := 8) (oi := _) (v := _) (by simp only [List.getElem?_toArray, List.getElem?_cons_succ, List.getElem?_cons_zero]; rfl) (by kernel_rfl) (by kernel_rfl) (by kernel_rfl) (by exact fun _ _ _ h => h) (Or.inl ⟨by rfl, by intro w' hSw; (try dsimp only at hSw); first | (go_simp; done) | (go_simp; with_reducible rfl)⟩) hHeld ?_
  simp only [Act.put, List.setIfInBounds_toArray, List.set_cons_zero, List.set_cons_succ]
  refine wpAnyH_take (i := 9) (oi := _) (v := _) (by simp only [List.getElem?_toArray, List.getElem?_cons_succ, List.getElem?_cons_zero]; rfl) (by kernel_rfl) (by kernel_rfl) (by kernel_rfl) (by exact fun _ _ _ h => h) (Or.inl ⟨by rfl, by intro w' hSw; (try dsimp only at hSw); first | (go_simp; done) | (go_simp; with_reducible rfl)⟩) hHeld ?_
  simp only [Act.put, List.setIfInBounds_toArray, List.set_cons_zero, List.set_cons_succ]
  refine wpAnyH_take (i := 10) (oi := _) (v := _) (by simp only [List.getElem?_toArray, List.getElem?_cons_succ, List.getElem?_cons_zero]; rfl) (by kernel_rfl) (by kernel_rfl) (by kernel_rfl) (by exact fun _ _ _ h => h) (Or.inl ⟨by rfl, by intro w' hSw; (try dsimp only at hSw); first | (go_simp; done) | (go_simp; with_reducible rfl)⟩) hHeld ?_
  simp only [Act.put, List.setIfInBounds_toArray, List.set_cons_zero, List.set_cons_succ]
  refine wpAnyH_take (i := 11) (oi := _) (v := _) (by simp only [List.getElem?_toArray, List.getElem?_cons_succ, List.getElem?_cons_zero]; rfl) (by kernel_rfl) (by kernel_rfl) (by kernel_rfl) (by exact fun _ _ _ h => h) (Or.inl ⟨by rfl, by intro w' hSw; (try dsimp only at hSw); first | (go_simp; done) | (go_simp; with_reducible rfl)⟩) hHeld ?_
  simp only [Act.put, List.setIfInBounds_toArray, List.set_cons_zero, List.set_cons_succ]
  refine wpAnyH_take (i := 13) (oi := _) (v := _) (by simp only [List.getElem?_toArray, List.getElem?_cons_succ, List.getElem?_cons_zero]; rfl) (by kernel_rfl) (by kernel_rfl) (by kernel_rfl) (by exact fun _ _ _ h => h) (Or.inl ⟨by rfl, by intro w' hSw; (try dsimp only at hSw); first | (go_simp; done) | (go_simp; with_reducible rfl)⟩) hHeld ?_
  simp only [Act.put, List.setIfInBounds_toArray, List.set_cons_zero, List.set_cons_succ]
  refine wpAnyH_take (i := 14) (oi := _) (v := _) (by simp only [List.getElem?_toArray, List.getElem?_cons_succ, List.getElem?_cons_zero]; rfl) (by kernel_rfl) (by kernel_rfl) (by kernel_rfl) (by exact fun _ _ _ h => h) (Or.inl ⟨by rfl, by intro w' hSw; (try dsimp only at hSw); first | (go_simp; done) | (go_simp; with_reducible rfl)⟩) hHeld ?_
  simp only [Act.put, List.setIfInBounds_toArray, List.set_cons_zero, List.set_cons_succ]
  refine wpAnyH_ready (rs := [12]) (by kernel_rfl) (by simp) ?_
  refine AllReadyH.cons rfl (fun K hK => ?_) AllReadyH.nil
  go_simp
  go_wp2_with fail
  refine (HRI.out _ HP6.out).mono ?_
  rintro r w7 ⟨rfl, hb7⟩
  have HP7 : Hid (PI w w7 ab ver (.slice aa n ac) (.slice ba n bc) l) := HP6.out.step hb7
  refine hK.out _ _ ⟨(agg2 HP7.out.x).1, (agg2 HP7.out.x).2.1, (agg2 HP7.out.y).1, (agg2 HP7.out.y).2.1⟩ (fun hHeld => ?_)
  clear hK K hb7
  refine wpAnyH_ready (rs := [15]) (by kernel_rfl) (by simp) ?_
  refine AllReadyH.cons rfl (fun K hK => ?_) AllReadyH.nil
  go_simp
  go_wp2_with fail
  refine (HRR.out _ HP7.out).mono ?_
  rintro r w8 ⟨rfl, hb8⟩
  have HP8 : Hid (PI w w8 ab ver (.slice aa n ac) (.slice ba n bc) l) := HP7.out.step hb8
  refine hK.out _ _ ⟨(agg2 HP8.out.x).1, (agg2 HP8.out.x).2.1, (agg2 HP8.out.y).1, (agg2 HP8.out.y).2.1⟩ (fun hHeld => ?_)
  clear hK K hb8
  refine wpAnyH_take (i := 16) (oi := _) (v := _) (by simp only [List.getElem?_toArray, List.getElem?_cons_succ, List.getElem?_cons_zero]; rfl) (by kernel_rfl) (by kernel_rfl) (by kernel_rfl) (by exact fun _ _ _ h => h) (Or.inl ⟨by rfl, by intro w' hSw; (try dsimp only at hSw); first | (go_simp; done) | (go_simp; with_reducible rfl)⟩) hHeld ?_
  simp only [Act.put, List.setIfInBounds_toArray, List.set_cons_zero, List.set_cons_succ]
  refine wpAnyH_take (i := 17) (oi := _) (v := _) (by simp only [List.getElem?_toArray, List.getElem?_cons_succ, List.getElem?_cons_zero]; rfl) (by kernel_rfl) (by kernel_rfl) (by kernel_rfl) (by exact fun _ _ _ h => h) (Or.inl ⟨by rfl, by intro w' hSw; (try dsimp only at hSw); first | (go_simp; done) | (go_simp; with_reducible rfl)⟩) hHeld ?_
  simp only [Act.put, List.setIfInBounds_toArray, List.set_cons_zero, List.set_cons_succ]
  refine wpAnyH_done (by kernel_rfl) ?_ _
  clear HRI HRR HP5 HP5d HP6 HP7 hHeld x0 x1 y0 y1 hq1
  by_cases hf : f = 0
  · obtain ⟨hO, hbz⟩ := HOP.out hf
    have hev := HEV.out hf
    subst hf
    rw [hev] at hC ⊢
    obtain ⟨hlE, hwE⟩ := lstE_bd b hbz s
    have HG1 : Hid (∀ w, NibAt w → Calls Tryz.prog 12 #[.string sec, .int .i64 s] w fun r w' => ∃ v, r = .returned (.tuple #[ino (verE b s) v, errV (getE b s)]) ∧ Row w' w.heap.size v (lstE b s) ∧ Below w.heap.size w w') := fun w h => (get_any (w := w) _ _ s h hO hbz).mono fun _ _ => GetAt.got
    have HQ1 : Hid (∀ w, Calls Tryz.prog 13 #[.string sec, .int .i64 s] w fun r w' => ∃ v, r = .returned (.tuple #[ino (verE b s) v, .int .i64 (getE b s)]) ∧ RowR w' w.heap.size v (lstE b s) ∧ Below w.heap.size w w') := fun w => (getR_any (w := w) _ _ s hO hbz).mono fun _ _ => GetAtR.got
    clear hO hbz HOP HEV hev hC hwE
    have hC := fun w hE => code_any (getE b s) w hE
    generalize verE b s = ver2 at *
    generalize lstE b s = l2 at *
    generalize getE b s = e at *
    generalize errV e = ev2 at *
    obtain ⟨n2, hn2⟩ : ∃ n, l2.length = n := ⟨_, rfl⟩
    have HL2 : Hid (l2.length = n2) := hn2
    rw [hn2] at hlE
    clear hn2
    go_wp2_with fail
    refine (HG1.out _ (HN.out.below HP8.out.below)).mono ?_
    rintro r w9 ⟨v, rfl, hr9, hb9⟩
    obtain ⟨xa, xc, rfl, _⟩ := row_slice hr9
    have hx := hr9
    rw [HL2.out] at hx ⊢
    have hB9 := HP8.out.below.trans (hb9.mono HP8.out.below.size)
    have HB9 : Hid (Below w.heap.size w (w9.alloc (Obj.cells #[.int .i64 ver2, .slice xa n2 xc] 26))) := hB9.alloc hB9.size _
    have HR9 : Hid (Row (w9.alloc (Obj.cells #[.int .i64 ver2, .slice xa n2 xc] 26)) w8.heap.size (.slice xa n2 xc) l2) := World.ownsRow.alloc hx _
    have HY9 : Hid ((w9.alloc (Obj.cells #[.int .i64 ver2, .slice xa n2 xc] 26)).heap[w9.heap.size]? = some (.cells #[.int .i64 ver2, .slice xa n2 xc] 26 (0, 0))) := heap_alloc_new _ _
    clear hb9 hr9 hx hB9 HG1 HP8
    simp only [ino]
    go_wp2_with fail
    refine (HQ1.out _).mono ?_
    rintro r wa ⟨v, rfl, hra, hba⟩
    obtain ⟨ya, yc, rfl, _⟩ := row_slice hra
    rw [HL2.out] at hra ⊢
    have hBa : Below w.heap.size w wa := HB9.out.trans (hba.mono HB9.out.size)
    have HBb : Hid (Below w.heap.size w (wa.alloc (Obj.cells #[.int .i64 ver2, .slice ya n2 yc] 29))) := hBa.alloc hBa.size _
    have hRa : Row wa w8.heap.size (.slice xa n2 xc) l2 := row_below HR9.out hba (Nat.le_refl _)
    have HRb : Hid (Row (wa.alloc (Obj.cells #[.int .i64 ver2, .slice ya n2 yc] 29)) w8.heap.size (.slice xa n2 xc) l2) := World.ownsRow.alloc hRa _
    have HSb : Hid (RowR (wa.alloc (Obj.cells #[.int .i64 ver2, .slice ya n2 yc] 29)) _ (.slice ya n2 yc) l2) := World.ownsRow.alloc hra _
    have hYa : wa.heap[w9.heap.size]? = some (.cells #[.int .i64 ver2, .slice xa n2 xc] 26 (0, 0)) := (hba.block _ (lt_of_heap HY9.out)).trans HY9.out
    have hYb : (wa.alloc (Obj.cells #[.int .i64 ver2, .slice ya n2 yc] 29)).heap[w9.heap.size]? = some (.cells #[.int .i64 ver2, .slice xa n2 xc] 26 (0, 0)) := (Below.heap_alloc _ _ _ (lt_of_heap hYa)).trans hYa
    have hZb : (wa.alloc (Obj.cells #[.int .i64 ver2, .slice ya n2 yc] 29)).heap[wa.heap.size]? = some (.cells #[.int .i64 ver2, .slice ya n2 yc] 29 (0, 0)) := heap_alloc_new _ _
    have hsm := same_any (w := wa.alloc (Obj.cells #[.int .i64 ver2, .slice ya n2 yc] 29)) ver2 _ _ l2 HRb.out HSb.out (by rw [HL2.out]; omega)
    obtain ⟨a0, a1, _, _⟩ := agg2 hYb
    obtain ⟨b0, b1, _, _⟩ := agg2 hZb
    clear hba hra hBa hRa hYa hYb hZb HQ1 HB9 HR9 HY9 HSb HRb
    simp only [ino] at hsm ⊢
    go_wp2_with fail
    refine hsm.mono ?_
    rintro r wc ⟨rfl, hbc⟩
    have HBc : Hid (Below w.heap.size w wc) := HBb.out.trans (hbc.mono HBb.out.size)
    clear hbc hsm HBb a0 a1 b0 b1
    go_wp2_with fail
    refine (hC _ (HE.out.below HBc.out HE.out.lt)).mono ?_
    rintro r wd ⟨rfl, hbd⟩
    have HBd : Hid (Below w.heap.size w wd) := HBc.out.trans (hbd.mono HBc.out.size)
    clear hbd hC HBc
    go_wp2
    go_ret
    exact ⟨rfl, HBd.out⟩
  · have hne : (f == 0) = false := by simpa using hf
    clear hC HOP HEV
    go_wp2
    go_ret
    exact ⟨rfl, HP8.out.below⟩

theorem inodePuts_calls {H : Type} {enc : TypeId × Value → H} {sp : Nat → Bool} {held : Bool} {d : DataW H} {p : List MemPlace} (ver : Int) (a : Option Addr) (len cap : Nat) (s : Int) (w : World) (_ : (Lit.int .i64 ver).wf = true)
    (h : DataW.Trod enc Tryz.prog w 0 sp held 22 (.slice a len cap) d p) (_ : (Lit.int .i64 s).wf = true) (hE : ErrT w) (hn : NibAt w) :
    Calls Tryz.prog 3 #[.int .i64 ver, .slice a len cap, .int .i64 s] w fun r w' => r = .returned (.bool true) ∧ Below w.heap.size w w' := by
  obtain ⟨L, hI, _⟩ := items_of_trod h
  exact inodePuts_walk ver a len cap L s w hI hE hn

end Go.Proofs.YtkfphmhnaelflacGreatDoor.Id
