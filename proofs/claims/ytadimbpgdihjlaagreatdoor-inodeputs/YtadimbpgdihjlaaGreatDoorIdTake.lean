/-
  The inode of a body, be it right or not. No condition.
-/
import Derived.Test.YtadimbpgdihjlaaGreatDoorIdGetR
namespace Go.Proofs.YtadimbpgdihjlaaGreatDoor.Id
open Go.ChangeShapes Go.WideShapes Go.ChangeAt Go.RowKit Go.Proofs.Fa
open Go.Proofs.YtadimbpgdihjlaaGreatDoor.Le (getF inNumF noughtsF endF InS Only read_any innum_any noughts_any InS_new)

/-- The inode under way at block yb, the reader behind the result. -/
structure TI (w W : World) (yb : Nat) (ver : Int) (v : Value) (l : List Ext) (rest : ByteArray) : Prop where
  y : W.heap[yb]? = some (.cells #[.int .i64 ver, v] 26 (0, 0))
  res : W.heap[w.heap.size]? = some (.cells #[.int .i64 0, .slice none 0 0] 26 (0, 0))
  inn : InS W (w.heap.size + 1) rest 0
  row : Row W (w.heap.size + 2) v l
  below : Below w.heap.size w W
  yge : w.heap.size + 2 ≤ yb
  ne : ∀ i, v.ownBlock = some i → i ≠ yb
theorem TI.alloc {w W : World} {yb : Nat} {ver : Int} {v : Value} {l : List Ext} {rest : ByteArray} (h : TI w W yb ver v l rest) (o : Obj) : TI w (W.alloc o) yb ver v l rest :=
  ⟨(Below.heap_alloc _ _ _ (lt_of_heap h.y)).trans h.y, (Below.heap_alloc _ _ _ (lt_of_heap h.res)).trans h.res, h.inn.kept ((Below.refl _ _).alloc (Nat.le_refl _) _), World.ownsRow.alloc h.row o, h.below.alloc h.below.size o, h.yge, h.ne⟩
theorem TI.drew {w W : World} {yb : Nat} {ver : Int} {v : Value} {l : List Ext} {rest : ByteArray} (h : TI w W yb ver v l rest) : TI w W.drew yb ver v l rest :=
  ⟨h.y, h.res, h.inn, World.ownsRow.drew h.row, h.below.drew, h.yge, h.ne⟩
theorem TI.read {w W W' : World} {yb : Nat} {ver : Int} {v : Value} {l : List Ext} {rest rest' : ByteArray} (h : TI w W yb ver v l rest) (ho : Only (w.heap.size + 1) W W') (hi : InS W' (w.heap.size + 1) rest' 0) : TI w W' yb ver v l rest' := by
  have hy := h.yge
  exact ⟨(ho.block _ (by omega)).trans h.y, (ho.block _ (by omega)).trans h.res, hi, row_keep h.row (fun g e => ho.block _ (by have := row_ge h.row g e; omega)), h.below.trans (ho.below (by omega)), h.yge, h.ne⟩
theorem TI.push {w W w5 : World} {yb : Nat} {ver : Int} {v v5 : Value} {l : List Ext} {e : Ext} {rest : ByteArray} (h : TI w W yb ver v l rest)
    (hown : w5.ownsRow (w.heap.size + 2) 51 2 v5 (l.length + 1) (ecells l ++ [.int .i64 e.pos, .int .i64 e.len])) (hg : W.grownBy w5 v.ownBlock) (hnear : Near W v v5) :
    TI w (w5.setCell ⟨yb, 1, none⟩ v5) yb ver v5 (l ++ [e]) rest ∧ w5.heap[yb]? = some (.cells #[.int .i64 ver, v] 26 (0, 0)) := by
  have hy5 : w5.heap[yb]? = some (.cells #[.int .i64 ver, v] 26 (0, 0)) := (hg.block yb (lt_of_heap h.y) (fun e => h.ne yb e.symm rfl)).trans h.y
  have hyl := lt_of_heap h.y
  have hil := h.inn.lt
  have hv5 : ∀ i, v5.ownBlock = some i → i ≠ yb := by
    intro i hi
    rcases hnear with hh | ⟨j, hh, hj⟩
    · rw [hh] at hi; exact h.ne i hi
    · rw [hh] at hi; cases hi; omega
  have hyge := h.yge
  have hin : InS (w5.setCell ⟨yb, 1, none⟩ v5) (w.heap.size + 1) rest 0 := by
    show (w5.setCell ⟨yb, 1, none⟩ v5).heap[w.heap.size + 1]? = _
    rw [heap_setCell_other _ ⟨yb, 1, none⟩ _ _ (by show w.heap.size + 1 ≠ yb; omega), hg.block _ hil (fun e => by have := row_ge h.row _ e.symm; omega)]
    exact h.inn
  refine ⟨⟨heap_setCell_same _ yb 1 _ _ v5 hy5, ?_, hin, ?_, ?_, h.yge, hv5⟩, hy5⟩
  · exact (heap_setCell_other _ ⟨yb, 1, none⟩ _ _ (by show w.heap.size ≠ yb; omega)).trans ((hg.block _ (lt_of_heap h.res) (fun e => by have := row_ge h.row _ e.symm; omega)).trans h.res)
  · show World.ownsRow _ _ _ _ _ _ _
    rw [ecells_append, List.length_append]
    exact row_keep hown (fun g hgb => heap_setCell_other _ ⟨yb, 1, none⟩ _ _ (hv5 g hgb))
  · exact ((h.below.grown hg h.below.size (fun k e => by have := row_ge h.row k e; omega)).setCell (p := ⟨yb, 1, none⟩) (by show w.heap.size ≤ yb; omega) _)

variable {w : World}
set_option maxRecDepth 100000
set_option maxHeartbeats 4000000

def takeE (b : ByteArray) : Int := if 36 < cntG b then 4 else if restG b (7 + 4 * cntG b) = true then 0 else 4
/-- What take answers. -/
def TakeAt (w : World) (b : ByteArray) (r : Ending) (w' : World) : Prop :=
  (∃ ver' v', r = .returned (.tuple #[ino ver' v', errV (takeE b)]) ∧ (takeE b = 0 → ver' = verG b ∧ Row w' w.heap.size v' (lstG b (cntG b))) ∧ (takeE b ≠ 0 → ver' = 0 ∧ v' = .slice none 0 0)) ∧ Below w.heap.size w w'

theorem res_take (tm : Array Value) (rb : Nat) (W : World) (ver : Int) (a : Option Addr) (n c : Nat) (er : Value) (h4 : tm[2]? = some (.pointer (some ⟨rb, 0, none⟩))) (h5 : tm.getD 3 undef = er) (h : W.heap[rb]? = some (.cells #[.int .i64 ver, .slice a n c] 26 (0, 0))) :
    (results Tryz.f29 tm).run Tryz.prog W = .ok (.tuple #[ino ver (.slice a n c), er]) W := by
  obtain ⟨c0, c1, _⟩ := agg2 h
  clear h
  subst h5
  simp [results, Tryz.f29, go_sem, h4, c0, c1, ino]

theorem take_any (b : ByteArray) (hb : b.size = 504) : Calls Tryz.prog 29 #[.string b] w fun r w' => TakeAt w b r w' := by
  obtain ⟨i0, hi, hz0, hz1, hz2⟩ := info_parts info_ext
  obtain ⟨w0, hw0⟩ : ∃ w0, w0 = w.alloc (.cells #[.int .i64 0, .slice none 0 0] 26) := ⟨_, rfl⟩
  have HB0 : Hid (Below w.heap.size w w0) := by rw [hw0]; exact (Below.refl _ _).alloc (Nat.le_refl _) _
  have HR0 : Hid (w0.heap[w.heap.size]? = some (.cells #[.int .i64 0, .slice none 0 0] 26 (0, 0))) := by rw [hw0]; exact heap_alloc_new _ _
  have hs0 : w0.heap.size = w.heap.size + 1 := by rw [hw0]; simp
  have HN1 : Hid (inNumF b 0 6 = (verG b, b.extract 6 504, 0)) := by
    have h := num_of b 0 6 (by decide) (by decide) hb (by decide)
    have e : b.extract 0 504 = b := by rw [← hb]; simp
    rw [e] at h
    exact h
  have HN2 : Hid (inNumF (b.extract 6 504) 0 1 = ((cntG b : Int), b.extract 7 504, 0)) := by
    have h := num_of b 6 1 (by decide) (by decide) hb (by decide)
    rw [cntG_get b hb] at h
    exact h
  have HG : Hid (takeE b = if 36 < cntG b then 4 else if restG b (7 + 4 * cntG b) = true then 0 else 4) := rfl
  have hcl := cntG_lt b
  obtain ⟨vg, hvg⟩ : ∃ x, verG b = x := ⟨_, rfl⟩
  obtain ⟨cn, hcn⟩ : ∃ x, cntG b = x := ⟨_, rfl⟩
  rw [hvg] at HN1
  rw [hcn] at HN2 HG hcl
  have HVG : Hid (verG b = vg) := hvg
  have HCN : Hid (cntG b = cn) := hcn
  clear hvg hcn
  go_enter Tryz.func29, Tryz.ntmps29
  go_wp2_with fail
  rw [← hw0]
  refine (read_any w0 b).mono ?_
  rintro r w2 ⟨rfl, hw2⟩
  have HI2 : Hid (InS w2 (w.heap.size + 1) b 0) := by rw [hw2, ← hs0]; exact InS_new w0 b
  have HB2 : Hid (Below w.heap.size w w2) := by rw [hw2]; exact HB0.out.alloc HB0.out.size _
  have HR2 : Hid (w2.heap[w.heap.size]? = some (.cells #[.int .i64 0, .slice none 0 0] 26 (0, 0))) := by rw [hw2]; exact (Below.heap_alloc _ _ _ (lt_of_heap HR0.out)).trans HR0.out
  rw [hs0]
  clear hw2 HB0 HR0 hw0 hs0
  go_wp2_with fail
  refine (innum_any _ (w.heap.size + 1) b 0 6 HI2.out).mono ?_
  rintro r w3 ⟨rfl, hi3, ho3⟩
  rw [HN1.out] at hi3 ⊢
  dsimp only at hi3 ⊢
  have hB3 : Below w.heap.size w w3 := HB2.out.trans (ho3.below (by omega))
  have hR3 : w3.heap[w.heap.size]? = some (.cells #[.int .i64 0, .slice none 0 0] 26 (0, 0)) := (ho3.block _ (by omega)).trans HR2.out
  have HT3 : Hid (TI w (w3.alloc (Obj.cells #[.int .i64 vg, .slice none 0 0] 26)) w3.heap.size vg (.slice none 0 0) (lstG b 0) (b.extract 6 504)) :=
    ⟨heap_alloc_new _ _, (Below.heap_alloc _ _ _ (lt_of_heap hR3)).trans hR3, hi3.kept ((Below.refl _ _).alloc (Nat.le_refl _) _), World.ownsRow_nil _ _ _ _, hB3.alloc hB3.size _, hi3.lt, fun i h => (by cases h)⟩
  clear hi3 ho3 hB3 hR3 HI2 HB2 HR2 HN1
  go_wp2_with fail
  generalize (w3.alloc (Obj.cells #[.int .i64 vg, .slice none 0 0] 26)) = w4 at *
  generalize w3.heap.size = yb at *
  refine (innum_any _ (w.heap.size + 1) _ 0 1 HT3.out.inn).mono ?_
  rintro r w5 ⟨rfl, hi5, ho5⟩
  rw [HN2.out] at hi5 ⊢
  dsimp only at hi5 ⊢
  have HT5 : Hid (TI w w5 yb vg (.slice none 0 0) (lstG b 0) (b.extract 7 504)) := HT3.out.read ho5 hi5
  clear hi5 ho5 HT3 HN2
  by_cases hbig : 36 < cn
  · have HGE : Hid (takeE b = 4) := by show _ = _; rw [HG.out, if_pos hbig]
    have hbig' : (36 : Int) < (cn : Int) := by omega
    obtain ⟨r0, r1, f0, f1⟩ := agg2 HT5.out.res
    go_wp2
    refine bodyPost_ret (res_take _ w.heap.size _ 0 none 0 0 _ rfl rfl (set2_heap HT5.out.res _ _)) rfl ?_
    exact ⟨⟨0, .slice none 0 0, by rw [HGE.out]; rfl, (fun h => by rw [HGE.out] at h; cases h), fun _ => ⟨rfl, rfl⟩⟩, set2_below HT5.out.below _ (Nat.le_refl _) _ _⟩
  · have hbig' : decide ((36 : Int) < (cn : Int)) = false := decide_eq_false (by omega)
    go_wp2_with fail
    go_loopw [21] (fun i wr => ∃ (k : Nat) (xa : Option Addr) (xc : Nat), k ≤ cn ∧ i = .int .i64 k ∧ TI w wr yb vg (.slice xa k xc) (lstG b k) (b.extract (7 + 4 * k) 504)) (fun i _ => cn - (intOf i).toNat)
    case atStart => exact ⟨0, none, 0, Nat.zero_le _, rfl, HT5.out⟩
    case round =>
      clear HT5
      obtain ⟨k, xa, xc, hk, rfl, hX⟩ := hrel
      have HTI : Hid (TI w wr yb vg (.slice xa k xc) (lstG b k) (b.extract (7 + 4 * k) 504)) := hX
      clear hX
      by_cases hlt : k < cn
      · obtain ⟨i3, hi3⟩ : ∃ i : Nat, i = 7 + 4 * (k + 1) := ⟨_, rfl⟩
        have HI3 : Hid (i3 = 7 + 4 * (k + 1)) := hi3
        have HNA : Hid (inNumF (b.extract (7 + 4 * k) 504) 0 2 = ((extG b k).pos, b.extract (9 + 4 * k) 504, 0)) := by
          have h := num_of b (7 + 4 * k) 2 (by decide) (by decide) hb (by omega)
          rw [show 7 + 4 * k + 2 = 9 + 4 * k by omega] at h
          exact h
        have HNB : Hid (inNumF (b.extract (9 + 4 * k) 504) 0 2 = ((extG b k).len, b.extract i3 504, 0)) := by
          have h := num_of b (9 + 4 * k) 2 (by decide) (by decide) hb (by omega)
          rw [show 9 + 4 * k + 2 = 11 + 4 * k by omega] at h
          rw [hi3, show 7 + 4 * (k + 1) = 11 + 4 * k by omega]
          exact h
        obtain ⟨ex, hex⟩ : ∃ e, extG b k = e := ⟨_, rfl⟩
        have HEX2 : Hid (extG b k = ex) := hex
        rw [hex] at HNA HNB
        obtain ⟨ep, el⟩ := ex
        dsimp only at HNA HNB
        clear hex hi3
        go_wp2_with fail
        refine (innum_any _ (w.heap.size + 1) _ 0 2 HTI.out.inn).mono ?_
        rintro r w6 ⟨rfl, hi6, ho6⟩
        rw [HNA.out] at hi6 ⊢
        dsimp only at hi6 ⊢
        have HT6 : Hid (TI w w6 yb vg (.slice xa k xc) (lstG b k) (b.extract (9 + 4 * k) 504)) := HTI.out.read ho6 hi6
        have HT6d : Hid (TI w w6.drew yb vg (.slice xa k xc) (lstG b k) (b.extract (9 + 4 * k) 504)) := HT6.out.drew
        clear hi6 ho6 HTI HNA
        obtain ⟨x0, x1, x2, x3⟩ := agg2 HT6.out.y
        obtain ⟨xd0, xd1, _, _⟩ := agg2 HT6d.out.y
        go_wp2_with fail
        refine wp_region_held_drew (S := fun _ => True) (by kernel_rfl) (by exact True.intro) (fun hHeld => ?_)
        change wpAnyH _ _ _ _ _ 10 (Array.replicate 10 false) _ _
        refine wpAnyH_take (i := 0) (oi := _) (v := _) (by simp only [List.getElem?_toArray, List.getElem?_cons_zero]; rfl) (by kernel_rfl) (by kernel_rfl) (by kernel_rfl) (by exact fun _ _ _ h => h) (Or.inl ⟨by rfl, by intro w' hSw; (try dsimp only at hSw); first | (go_simp; done) | (go_simp; with_reducible rfl)⟩) hHeld ?_
        simp only [Act.put, List.setIfInBounds_toArray, List.set_cons_zero, List.set_cons_succ]
        refine wpAnyH_take (i := 2) (oi := _) (v := _) (by simp only [List.getElem?_toArray, List.getElem?_cons_succ, List.getElem?_cons_zero]; rfl) (by kernel_rfl) (by kernel_rfl) (by kernel_rfl) (by exact fun _ _ _ h => h) (Or.inl ⟨by rfl, by intro w' hSw; (try dsimp only at hSw); first | (go_simp; done) | (go_simp; with_reducible rfl)⟩) hHeld ?_
        simp only [Act.put, List.setIfInBounds_toArray, List.set_cons_zero, List.set_cons_succ]
        refine wpAnyH_take (i := 3) (oi := _) (v := _) (by simp only [List.getElem?_toArray, List.getElem?_cons_succ, List.getElem?_cons_zero]; rfl) (by kernel_rfl) (by kernel_rfl) (by kernel_rfl) (by exact fun _ _ _ h => h) (Or.inl ⟨by rfl, by intro w' hSw; (try dsimp only at hSw); first | (go_simp; done) | (go_simp; with_reducible rfl)⟩) hHeld ?_
        simp only [Act.put, List.setIfInBounds_toArray, List.set_cons_zero, List.set_cons_succ]
        refine wpAnyH_ready (rs := [1, 4]) (by kernel_rfl) (by simp) ?_
        refine (AllReadyH.cons rfl (fun K hK => ?_) (AllReadyH.cons rfl (fun K hK => ?_) AllReadyH.nil))
        · skip
          go_simp
          go_wp2_with fail
          refine hK.out _ _ True.intro (fun hHeld => ?_)
          clear hK K
          refine wpAnyH_ready (rs := [4]) (by kernel_rfl) (by simp) ?_
          refine AllReadyH.cons rfl (fun K hK => ?_) AllReadyH.nil
          go_simp
          go_wp2_with fail
          refine (innum_any _ (w.heap.size + 1) _ 0 2 HT6d.out.inn).mono ?_
          rintro r w7 ⟨rfl, hi7, ho7⟩
          rw [HNB.out] at hi7 ⊢
          dsimp only at hi7 ⊢
          have HT7 : Hid (TI w w7 yb vg (.slice xa k xc) (lstG b k) (b.extract i3 504)) := HT6d.out.read ho7 hi7
          clear hi7 ho7
          obtain ⟨z0, z1, z2, z3⟩ := agg2 HT7.out.y
          refine hK.out _ _ True.intro (fun hHeld => ?_)
          clear hK K
          refine wpAnyH_take (i := 5) (oi := _) (v := _) (by simp only [List.getElem?_toArray, List.getElem?_cons_succ, List.getElem?_cons_zero]; rfl) (by kernel_rfl) (by kernel_rfl) (by kernel_rfl) (by exact fun _ _ _ h => h) (Or.inl ⟨by rfl, by intro w' hSw; (try dsimp only at hSw); first | (go_simp; done) | (go_simp; with_reducible rfl)⟩) hHeld ?_
          simp only [Act.put, List.setIfInBounds_toArray, List.set_cons_zero, List.set_cons_succ]
          refine wpAnyH_ready (rs := [6]) (by kernel_rfl) (by simp) ?_
          refine AllReadyH.cons rfl (fun K hK => ?_) AllReadyH.nil
          go_simp
          go_wp2_with fail
          obtain ⟨WA, hWA⟩ : ∃ W, W = w7.alloc (Obj.cells #[.int .i64 ep, .int .i64 el] 51) := ⟨_, rfl⟩
          rw [← hWA]
          refine hK.out _ _ True.intro (fun hHeld => ?_)
          clear hK K
          have HIA : Hid (TI w WA yb vg (.slice xa k xc) (lstG b k) (b.extract i3 504)) := by rw [hWA]; exact HT7.out.alloc _
          have hEA : WA.heap[w7.heap.size]? = some (.cells #[.int .i64 ep, .int .i64 el] 51 (0, 0)) := by rw [hWA]; exact heap_alloc_new _ _
          obtain ⟨t0, t1, t2, t3⟩ := agg2 HIA.out.y
          clear hWA
          have hsrc : ∀ j u, [Value.int .i64 ep, Value.int .i64 el][j]? = some u → WA.cell? ((⟨w7.heap.size, 0, none⟩ : Addr).add j) = some u := fun j u hu => by
            rw [show (⟨w7.heap.size, 0, none⟩ : Addr).add j = ⟨w7.heap.size, j, none⟩ by simp [Addr.add_lit]]
            exact cell_of_heap hEA j u (by simpa using hu)
          obtain ⟨v5, W5, hrun, hown5, hgrow, hnear⟩ := run_append_near (P := Tryz.prog) (w := WA) (w.heap.size + 2) 24 24 51 i0 _ 2 16 Tryz.underlying24 hi hz0 hz1 hz2 rfl (by decide) (.slice xa k xc) k (ecells (lstG b k)) (by have h := HIA.out.row; unfold Row at h; rw [lstG_length] at h; exact h) ⟨w7.heap.size, 0, none⟩ 1 1 [.int .i64 ep, .int .i64 el] rfl hsrc (by intro u hu; simp only [List.mem_cons, List.not_mem_nil, or_false] at hu; rcases hu with rfl | rfl <;> rfl) (by unfold maxLen; omega) (by omega) (by have := HIA.out.inn.lt; omega)
          refine wpAnyH_ready (rs := [7]) (by kernel_rfl) (by simp) ?_
          refine AllReadyH.cons (o := _) (by simp only [List.getElem?_toArray, List.getElem?_cons_succ, List.getElem?_cons_zero]; rfl) (fun K hK => ?_) AllReadyH.nil
          refine wpH_app2 (by rfl) rfl rfl rfl hrun ?_
          obtain ⟨a5, cap5, hv5, hm5⟩ := row_slice hown5
          subst hv5
          refine hK.out _ _ True.intro (fun hHeld => ?_)
          clear hK K
          simp only [Act.put, List.setIfInBounds_toArray, List.set_cons_zero, List.set_cons_succ]
          obtain ⟨hk1, hk2⟩ := HIA.out.push (e := ⟨ep, el⟩) (by rw [lstG_length]; exact hown5) hgrow hnear
          have HI5 : Hid (TI w (W5.setCell ⟨yb, 1, none⟩ (.slice a5 (k + 1) cap5)) yb vg (.slice a5 (k + 1) cap5) (lstG b (k + 1)) (b.extract i3 504)) := by rw [lstG_succ, HEX2.out]; exact hk1
          obtain ⟨n0, n1, n2, n3⟩ := agg2 hk2
          clear hk1 hk2 hown5 hgrow hnear hm5 hrun
          refine wpAnyH_take (i := 8) (oi := _) (v := _) (by simp only [List.getElem?_toArray, List.getElem?_cons_succ, List.getElem?_cons_zero]; rfl) (by kernel_rfl) (by kernel_rfl) (by kernel_rfl) (by exact fun _ _ _ h => h) (Or.inl ⟨by rfl, by intro w' hSw; (try dsimp only at hSw); first | (go_simp; done) | (go_simp; with_reducible rfl)⟩) hHeld ?_
          simp only [Act.put, List.setIfInBounds_toArray, List.set_cons_zero, List.set_cons_succ]
          refine wpAnyH_ready (rs := [9]) (by kernel_rfl) (by simp) ?_
          refine AllReadyH.cons rfl (fun K hK => ?_) AllReadyH.nil
          go_simp
          go_wp2_with fail
          refine hK.out _ _ True.intro (fun hHeld => ?_)
          clear hK K
          refine wpAnyH_done (by kernel_rfl) ?_ _
          go_wp2
          go_roundw
          case rel => exact ⟨k + 1, a5, cap5, by omega, by go_num, by rw [HI3.out] at HI5; exact HI5.out⟩
          case measure => simp [intOf]; omega
        · skip
          go_simp
          go_wp2_with fail
          refine (innum_any _ (w.heap.size + 1) _ 0 2 HT6d.out.inn).mono ?_
          rintro r w7 ⟨rfl, hi7, ho7⟩
          rw [HNB.out] at hi7 ⊢
          dsimp only at hi7 ⊢
          have HT7 : Hid (TI w w7 yb vg (.slice xa k xc) (lstG b k) (b.extract i3 504)) := HT6d.out.read ho7 hi7
          clear hi7 ho7
          obtain ⟨z0, z1, z2, z3⟩ := agg2 HT7.out.y
          refine hK.out _ _ True.intro (fun hHeld => ?_)
          clear hK K
          refine wpAnyH_take (i := 5) (oi := _) (v := _) (by simp only [List.getElem?_toArray, List.getElem?_cons_succ, List.getElem?_cons_zero]; rfl) (by kernel_rfl) (by kernel_rfl) (by kernel_rfl) (by exact fun _ _ _ h => h) (Or.inl ⟨by rfl, by intro w' hSw; (try dsimp only at hSw); first | (go_simp; done) | (go_simp; with_reducible rfl)⟩) hHeld ?_
          simp only [Act.put, List.setIfInBounds_toArray, List.set_cons_zero, List.set_cons_succ]
          refine wpAnyH_ready (rs := [1, 6]) (by kernel_rfl) (by simp) ?_
          refine (AllReadyH.cons rfl (fun K hK => ?_) (AllReadyH.cons rfl (fun K hK => ?_) AllReadyH.nil))
          · skip
            go_simp
            go_wp2_with fail
            refine hK.out _ _ True.intro (fun hHeld => ?_)
            clear hK K
            refine wpAnyH_ready (rs := [6]) (by kernel_rfl) (by simp) ?_
            refine AllReadyH.cons rfl (fun K hK => ?_) AllReadyH.nil
            go_simp
            go_wp2_with fail
            obtain ⟨WA, hWA⟩ : ∃ W, W = w7.alloc (Obj.cells #[.int .i64 ep, .int .i64 el] 51) := ⟨_, rfl⟩
            rw [← hWA]
            refine hK.out _ _ True.intro (fun hHeld => ?_)
            clear hK K
            have HIA : Hid (TI w WA yb vg (.slice xa k xc) (lstG b k) (b.extract i3 504)) := by rw [hWA]; exact HT7.out.alloc _
            have hEA : WA.heap[w7.heap.size]? = some (.cells #[.int .i64 ep, .int .i64 el] 51 (0, 0)) := by rw [hWA]; exact heap_alloc_new _ _
            obtain ⟨t0, t1, t2, t3⟩ := agg2 HIA.out.y
            clear hWA
            have hsrc : ∀ j u, [Value.int .i64 ep, Value.int .i64 el][j]? = some u → WA.cell? ((⟨w7.heap.size, 0, none⟩ : Addr).add j) = some u := fun j u hu => by
              rw [show (⟨w7.heap.size, 0, none⟩ : Addr).add j = ⟨w7.heap.size, j, none⟩ by simp [Addr.add_lit]]
              exact cell_of_heap hEA j u (by simpa using hu)
            obtain ⟨v5, W5, hrun, hown5, hgrow, hnear⟩ := run_append_near (P := Tryz.prog) (w := WA) (w.heap.size + 2) 24 24 51 i0 _ 2 16 Tryz.underlying24 hi hz0 hz1 hz2 rfl (by decide) (.slice xa k xc) k (ecells (lstG b k)) (by have h := HIA.out.row; unfold Row at h; rw [lstG_length] at h; exact h) ⟨w7.heap.size, 0, none⟩ 1 1 [.int .i64 ep, .int .i64 el] rfl hsrc (by intro u hu; simp only [List.mem_cons, List.not_mem_nil, or_false] at hu; rcases hu with rfl | rfl <;> rfl) (by unfold maxLen; omega) (by omega) (by have := HIA.out.inn.lt; omega)
            refine wpAnyH_ready (rs := [7]) (by kernel_rfl) (by simp) ?_
            refine AllReadyH.cons (o := _) (by simp only [List.getElem?_toArray, List.getElem?_cons_succ, List.getElem?_cons_zero]; rfl) (fun K hK => ?_) AllReadyH.nil
            refine wpH_app2 (by rfl) rfl rfl rfl hrun ?_
            obtain ⟨a5, cap5, hv5, hm5⟩ := row_slice hown5
            subst hv5
            refine hK.out _ _ True.intro (fun hHeld => ?_)
            clear hK K
            simp only [Act.put, List.setIfInBounds_toArray, List.set_cons_zero, List.set_cons_succ]
            obtain ⟨hk1, hk2⟩ := HIA.out.push (e := ⟨ep, el⟩) (by rw [lstG_length]; exact hown5) hgrow hnear
            have HI5 : Hid (TI w (W5.setCell ⟨yb, 1, none⟩ (.slice a5 (k + 1) cap5)) yb vg (.slice a5 (k + 1) cap5) (lstG b (k + 1)) (b.extract i3 504)) := by rw [lstG_succ, HEX2.out]; exact hk1
            obtain ⟨n0, n1, n2, n3⟩ := agg2 hk2
            clear hk1 hk2 hown5 hgrow hnear hm5 hrun
            refine wpAnyH_take (i := 8) (oi := _) (v := _) (by simp only [List.getElem?_toArray, List.getElem?_cons_succ, List.getElem?_cons_zero]; rfl) (by kernel_rfl) (by kernel_rfl) (by kernel_rfl) (by exact fun _ _ _ h => h) (Or.inl ⟨by rfl, by intro w' hSw; (try dsimp only at hSw); first | (go_simp; done) | (go_simp; with_reducible rfl)⟩) hHeld ?_
            simp only [Act.put, List.setIfInBounds_toArray, List.set_cons_zero, List.set_cons_succ]
            refine wpAnyH_ready (rs := [9]) (by kernel_rfl) (by simp) ?_
            refine AllReadyH.cons rfl (fun K hK => ?_) AllReadyH.nil
            go_simp
            go_wp2_with fail
            refine hK.out _ _ True.intro (fun hHeld => ?_)
            clear hK K
            refine wpAnyH_done (by kernel_rfl) ?_ _
            go_wp2
            go_roundw
            case rel => exact ⟨k + 1, a5, cap5, by omega, by go_num, by rw [HI3.out] at HI5; exact HI5.out⟩
            case measure => simp [intOf]; omega
          · skip
            go_simp
            go_wp2_with fail
            obtain ⟨WA, hWA⟩ : ∃ W, W = w7.alloc (Obj.cells #[.int .i64 ep, .int .i64 el] 51) := ⟨_, rfl⟩
            rw [← hWA]
            refine hK.out _ _ True.intro (fun hHeld => ?_)
            clear hK K
            have HIA : Hid (TI w WA yb vg (.slice xa k xc) (lstG b k) (b.extract i3 504)) := by rw [hWA]; exact HT7.out.alloc _
            have hEA : WA.heap[w7.heap.size]? = some (.cells #[.int .i64 ep, .int .i64 el] 51 (0, 0)) := by rw [hWA]; exact heap_alloc_new _ _
            obtain ⟨t0, t1, t2, t3⟩ := agg2 HIA.out.y
            clear hWA
            refine wpAnyH_ready (rs := [1]) (by kernel_rfl) (by simp) ?_
            refine AllReadyH.cons rfl (fun K hK => ?_) AllReadyH.nil
            go_simp
            go_wp2_with fail
            refine hK.out _ _ True.intro (fun hHeld => ?_)
            clear hK K
            have hsrc : ∀ j u, [Value.int .i64 ep, Value.int .i64 el][j]? = some u → WA.cell? ((⟨w7.heap.size, 0, none⟩ : Addr).add j) = some u := fun j u hu => by
              rw [show (⟨w7.heap.size, 0, none⟩ : Addr).add j = ⟨w7.heap.size, j, none⟩ by simp [Addr.add_lit]]
              exact cell_of_heap hEA j u (by simpa using hu)
            obtain ⟨v5, W5, hrun, hown5, hgrow, hnear⟩ := run_append_near (P := Tryz.prog) (w := WA) (w.heap.size + 2) 24 24 51 i0 _ 2 16 Tryz.underlying24 hi hz0 hz1 hz2 rfl (by decide) (.slice xa k xc) k (ecells (lstG b k)) (by have h := HIA.out.row; unfold Row at h; rw [lstG_length] at h; exact h) ⟨w7.heap.size, 0, none⟩ 1 1 [.int .i64 ep, .int .i64 el] rfl hsrc (by intro u hu; simp only [List.mem_cons, List.not_mem_nil, or_false] at hu; rcases hu with rfl | rfl <;> rfl) (by unfold maxLen; omega) (by omega) (by have := HIA.out.inn.lt; omega)
            refine wpAnyH_ready (rs := [7]) (by kernel_rfl) (by simp) ?_
            refine AllReadyH.cons (o := _) (by simp only [List.getElem?_toArray, List.getElem?_cons_succ, List.getElem?_cons_zero]; rfl) (fun K hK => ?_) AllReadyH.nil
            refine wpH_app2 (by rfl) rfl rfl rfl hrun ?_
            obtain ⟨a5, cap5, hv5, hm5⟩ := row_slice hown5
            subst hv5
            refine hK.out _ _ True.intro (fun hHeld => ?_)
            clear hK K
            simp only [Act.put, List.setIfInBounds_toArray, List.set_cons_zero, List.set_cons_succ]
            obtain ⟨hk1, hk2⟩ := HIA.out.push (e := ⟨ep, el⟩) (by rw [lstG_length]; exact hown5) hgrow hnear
            have HI5 : Hid (TI w (W5.setCell ⟨yb, 1, none⟩ (.slice a5 (k + 1) cap5)) yb vg (.slice a5 (k + 1) cap5) (lstG b (k + 1)) (b.extract i3 504)) := by rw [lstG_succ, HEX2.out]; exact hk1
            obtain ⟨n0, n1, n2, n3⟩ := agg2 hk2
            clear hk1 hk2 hown5 hgrow hnear hm5 hrun
            refine wpAnyH_take (i := 8) (oi := _) (v := _) (by simp only [List.getElem?_toArray, List.getElem?_cons_succ, List.getElem?_cons_zero]; rfl) (by kernel_rfl) (by kernel_rfl) (by kernel_rfl) (by exact fun _ _ _ h => h) (Or.inl ⟨by rfl, by intro w' hSw; (try dsimp only at hSw); first | (go_simp; done) | (go_simp; with_reducible rfl)⟩) hHeld ?_
            simp only [Act.put, List.setIfInBounds_toArray, List.set_cons_zero, List.set_cons_succ]
            refine wpAnyH_ready (rs := [9]) (by kernel_rfl) (by simp) ?_
            refine AllReadyH.cons rfl (fun K hK => ?_) AllReadyH.nil
            go_simp
            go_wp2_with fail
            refine hK.out _ _ True.intro (fun hHeld => ?_)
            clear hK K
            refine wpAnyH_done (by kernel_rfl) ?_ _
            go_wp2
            go_roundw
            case rel => exact ⟨k + 1, a5, cap5, by omega, by go_num, by rw [HI3.out] at HI5; exact HI5.out⟩
            case measure => simp [intOf]; omega
      · obtain rfl : k = cn := by omega
        have HNC : Hid (noughtsF (b.extract (7 + 4 * k) 504) 0 ((504 - (7 + 4 * k) : Nat) : Int) = (ByteArray.empty, if restG b (7 + 4 * k) then 0 else 4)) := nought_of b (7 + 4 * k) hb (by omega)
        obtain ⟨dn, hdn⟩ : ∃ d : Nat, d = 504 - (7 + 4 * k) := ⟨_, rfl⟩
        rw [← hdn] at HNC
        have hz4 : (b.extract (7 + 4 * k) 504).size ≤ 9223372036854775807 := by rw [ext_size b _ _ (by omega)]; omega
        have hdn' : (497 : Int) - (k : Int) * 2 * 2 = (dn : Int) := by omega
        have hN := noughts_any wr (w.heap.size + 1) (b.extract (7 + 4 * k) 504) 0 dn HTI.out.inn hz4
        rw [HNC.out] at hN
        clear hdn HNC hz4
        go_wp2_with fail
        refine hN.mono ?_
        rintro r w6 ⟨rfl, hi6, ho6⟩
        have hyg := HTI.out.yge
        have HI6 : Hid (InS w6 (w.heap.size + 1) ByteArray.empty (if restG b (7 + 4 * k) = true then 0 else 4)) := hi6
        have HB6 : Hid (Below w.heap.size w w6) := HTI.out.below.trans (ho6.below (by omega))
        have HR6 : Hid (w6.heap[w.heap.size]? = some (.cells #[.int .i64 0, .slice none 0 0] 26 (0, 0))) := (ho6.block _ (by omega)).trans HTI.out.res
        have HY6 : Hid (w6.heap[yb]? = some (.cells #[.int .i64 vg, .slice xa k xc] 26 (0, 0))) := (ho6.block _ (by omega)).trans HTI.out.y
        have HW6 : Hid (Row w6 (w.heap.size + 2) (.slice xa k xc) (lstG b k)) := row_keep HTI.out.row (fun g e => ho6.block _ (by have := row_ge HTI.out.row g e; omega))
        clear hi6 ho6 hN HTI
        have hE := Le.end_any w6 (w.heap.size + 1) _ _ HI6.out
        obtain ⟨r0, r1, f0, f1⟩ := agg2 HR6.out
        obtain ⟨y0, y1, g0, g1⟩ := agg2 HY6.out
        by_cases hz : restG b (7 + 4 * k) = true
        · rw [if_pos hz, show Le.errV (endF ByteArray.empty 0) = .nilIface from rfl] at hE
          have HGE : Hid (takeE b = 0) := by show _ = _; rw [HG.out, if_neg hbig, if_pos hz]
          clear HG hz HI6
          go_wp2_with fail
          refine hE.mono ?_
          rintro r w7 ⟨rfl, rfl⟩
          clear hE
          go_wp2
          refine bodyPost_ret (res_take _ w.heap.size _ vg xa k xc _ rfl rfl (set2_heap HR6.out _ _)) rfl ?_
          have HB7 := set2_below HB6.out w.heap.size (Nat.le_refl _) (.int .i64 vg) (.slice xa k xc)
          refine ⟨⟨vg, .slice xa k xc, by rw [HGE.out]; rfl, fun _ => ⟨HVG.out.symm, ?_⟩, fun h => absurd HGE.out h⟩, HB7⟩
          rw [HCN.out]
          refine row_base ?_ (Nat.le_add_right w.heap.size 2)
          exact row_keep HW6.out (fun g e => by have := row_ge HW6.out g e; rw [heap_setCell_other _ _ _ _ (by show g ≠ w.heap.size; omega), heap_setCell_other _ _ _ _ (by show g ≠ w.heap.size; omega)])
        · rw [if_neg hz, show Le.errV (endF ByteArray.empty 4) = .iface 57 (.int .i64 4) from rfl] at hE
          have HGE : Hid (takeE b = 4) := by show _ = _; rw [HG.out, if_neg hbig, if_neg hz]
          clear HG hz HI6
          go_wp2_with fail
          refine hE.mono ?_
          rintro r w7 ⟨rfl, rfl⟩
          clear hE
          go_wp2
          refine bodyPost_ret (res_take _ w.heap.size _ 0 none 0 0 _ rfl rfl (set2_heap HR6.out _ _)) rfl ?_
          exact ⟨⟨0, .slice none 0 0, by rw [HGE.out]; rfl, (fun h => by rw [HGE.out] at h; cases h), fun _ => ⟨rfl, rfl⟩⟩, set2_below HB6.out _ (Nat.le_refl _) _ _⟩

end Go.Proofs.YtadimbpgdihjlaaGreatDoor.Id
