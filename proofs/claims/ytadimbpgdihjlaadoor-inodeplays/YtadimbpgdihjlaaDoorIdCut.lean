/-
  An inode that is cut. Condition: extents that lie below 2048.
-/
import Derived.Test.YtadimbpgdihjlaaDoorIdGrow
namespace Go.Proofs.YtadimbpgdihjlaaDoor.Id
open Go.ChangeShapes Go.WideShapes Go.ChangeAt Go.RowKit Go.Proofs.Fa

variable {w : World} {B : Nat}
set_option maxRecDepth 100000
set_option maxHeartbeats 1000000

/-- What Cut answers. -/
def CutAt (w : World) (ver : Int) (l : List Ext) (b : Int) (r : Ending) (w' : World) : Prop :=
  (∃ ver' v' f', r = .returned (.tuple #[ino ver' v', f', errV (if 0 ≤ b ∧ b ≤ sizeF l then 0 else 1)]) ∧
    ((0 ≤ b ∧ b ≤ sizeF l) → ver' = (if cutL l b = [] then ver else ver + 1) ∧ Row w' w.heap.size v' (cutK l b) ∧ Row w' w.heap.size f' (cutL l b)) ∧
    (¬ (0 ≤ b ∧ b ≤ sizeF l) → ver' = 0 ∧ v' = .slice none 0 0 ∧ f' = .slice none 0 0)) ∧ Below w.heap.size w w'

theorem res_cut (tm : Array Value) (rb : Nat) (W : World) (ver : Int) (a : Option Addr) (n c : Nat) (f er : Value) (h4 : tm[4]? = some (.pointer (some ⟨rb, 0, none⟩))) (h5 : tm.getD 5 undef = f) (h6 : tm.getD 6 undef = er) (h : W.heap[rb]? = some (.cells #[.int .i64 ver, .slice a n c] 26 (0, 0))) :
    (results Tryd.f6 tm).run Tryd.prog W = .ok (.tuple #[ino ver (.slice a n c), f, er]) W := by
  obtain ⟨c0, c1, _⟩ := agg2 h
  clear h
  subst h5 h6
  simp [results, Tryd.f6, go_sem, h4, c0, c1, ino]

theorem cutK_drop (l : List Ext) (k : Nat) (b : Int) (hk : k < l.length) : cutK (l.drop k) b = (if 0 < min b l[k].len then [⟨l[k].pos, min b l[k].len⟩] else []) ++ cutK (l.drop (k + 1)) (b - min b l[k].len) := by rw [List.drop_eq_getElem_cons hk]; rfl
theorem cutL_drop (l : List Ext) (k : Nat) (b : Int) (hk : k < l.length) : cutL (l.drop k) b = (if min b l[k].len < l[k].len then [⟨l[k].pos + min b l[k].len, l[k].len - min b l[k].len⟩] else []) ++ cutL (l.drop (k + 1)) (b - min b l[k].len) := by rw [List.drop_eq_getElem_cons hk]; rfl

/-- Where Cut stands: the inode under way at block yb, what is free in a row of its own; both apart. -/
structure CutI (w wr : World) (yb : Nat) (ver : Int) (kv fv : Value) (kl fl : List Ext) : Prop where
  y : wr.heap[yb]? = some (.cells #[.int .i64 ver, kv] 26 (0, 0))
  res : wr.heap[w.heap.size + 1]? = some (.cells #[.int .i64 0, .slice none 0 0] 26 (0, 0))
  kr : Row wr (w.heap.size + 2) kv kl
  fr : Row wr (w.heap.size + 2) fv fl
  below : Below w.heap.size w wr
  yge : w.heap.size + 2 ≤ yb
  ky : ∀ i, kv.ownBlock = some i → i ≠ yb
  fy : ∀ i, fv.ownBlock = some i → i ≠ yb
  kf : ∀ i, kv.ownBlock = some i → fv.ownBlock ≠ some i

theorem CutI.alloc {w wr : World} {yb : Nat} {ver : Int} {kv fv : Value} {kl fl : List Ext} (h : CutI w wr yb ver kv fv kl fl) (o : Obj) : CutI w (wr.alloc o) yb ver kv fv kl fl :=
  ⟨(Below.heap_alloc _ _ _ (lt_of_heap h.y)).trans h.y, (Below.heap_alloc _ _ _ (lt_of_heap h.res)).trans h.res, World.ownsRow.alloc h.kr o, World.ownsRow.alloc h.fr o, h.below.alloc h.below.size o, h.yge, h.ky, h.fy, h.kf⟩

/-- An extent is laid behind those that stay. -/
theorem CutI.keep {w wr w5 : World} {yb : Nat} {ver : Int} {kv fv v5 : Value} {kl fl : List Ext} {e : Ext} (h : CutI w wr yb ver kv fv kl fl)
    (hown : w5.ownsRow (w.heap.size + 2) 40 2 v5 (kl.length + 1) (ecells kl ++ [.int .i64 e.pos, .int .i64 e.len])) (hg : wr.grownBy w5 kv.ownBlock) (hnear : Near wr kv v5) :
    CutI w (w5.setCell ⟨yb, 1, none⟩ v5) yb ver v5 fv (kl ++ [e]) fl ∧ w5.heap[yb]? = some (.cells #[.int .i64 ver, kv] 26 (0, 0)) := by
  have hy5 : w5.heap[yb]? = some (.cells #[.int .i64 ver, kv] 26 (0, 0)) := (hg.block yb (lt_of_heap h.y) (fun e => h.ky yb e.symm rfl)).trans h.y
  have hyl := lt_of_heap h.y
  have hv5 : ∀ i, v5.ownBlock = some i → i ≠ yb ∧ fv.ownBlock ≠ some i := by
    intro i hi
    rcases hnear with hh | ⟨j, hh, hj⟩
    · rw [hh] at hi; exact ⟨h.ky i hi, h.kf i hi⟩
    · rw [hh] at hi; cases hi
      exact ⟨by omega, fun e => by have := row_lt h.fr _ e; omega⟩
  refine ⟨⟨?_, ?_, ?_, ?_, ?_, h.yge, fun i hi => (hv5 i hi).1, h.fy, fun i hi => (hv5 i hi).2⟩, hy5⟩
  · exact heap_setCell_same _ yb 1 _ _ v5 hy5
  · have hlt := lt_of_heap h.res
    have := h.yge
    exact (heap_setCell_other _ ⟨yb, 1, none⟩ _ _ (by show w.heap.size + 1 ≠ yb; omega)).trans ((hg.block _ hlt (fun e => by have := row_ge h.kr _ e.symm; omega)).trans h.res)
  · show World.ownsRow _ _ _ _ _ _ _
    rw [ecells_append, List.length_append]
    exact row_keep hown (fun g hgb => heap_setCell_other _ ⟨yb, 1, none⟩ _ _ (hv5 g hgb).1)
  · exact row_keep h.fr (fun g hgb => (heap_setCell_other _ ⟨yb, 1, none⟩ _ _ (h.fy g hgb)).trans (hg.block g (row_lt h.fr g hgb) (fun e => h.kf g e.symm hgb)))
  · have := h.yge
    exact ((h.below.grown hg h.below.size (fun k e => by have := row_ge h.kr k e; omega)).setCell (p := ⟨yb, 1, none⟩) (by show w.heap.size ≤ yb; omega) _)

/-- An extent is laid behind those that are free. -/
theorem CutI.free {w wr w5 : World} {yb : Nat} {ver : Int} {kv fv v5 : Value} {kl fl : List Ext} {e : Ext} (h : CutI w wr yb ver kv fv kl fl)
    (hown : w5.ownsRow (w.heap.size + 2) 40 2 v5 (fl.length + 1) (ecells fl ++ [.int .i64 e.pos, .int .i64 e.len])) (hg : wr.grownBy w5 fv.ownBlock) (hnear : Near wr fv v5) :
    CutI w w5 yb ver kv v5 kl (fl ++ [e]) := by
  have hy5 : w5.heap[yb]? = some (.cells #[.int .i64 ver, kv] 26 (0, 0)) := (hg.block yb (lt_of_heap h.y) (fun e => h.fy yb e.symm rfl)).trans h.y
  have hyl := lt_of_heap h.y
  have hv5 : ∀ i, v5.ownBlock = some i → i ≠ yb ∧ kv.ownBlock ≠ some i := by
    intro i hi
    rcases hnear with hh | ⟨j, hh, hj⟩
    · rw [hh] at hi; exact ⟨h.fy i hi, fun e => h.kf i e hi⟩
    · rw [hh] at hi; cases hi
      exact ⟨by omega, fun e => by have := row_lt h.kr _ e; omega⟩
  refine ⟨hy5, ?_, ?_, ?_, ?_, h.yge, h.ky, fun i hi => (hv5 i hi).1, fun i hi e => (hv5 i e).2 hi⟩
  · exact (hg.block _ (lt_of_heap h.res) (fun e => by have := row_ge h.fr _ e.symm; omega)).trans h.res
  · exact row_keep h.kr (fun g hgb => hg.block g (row_lt h.kr g hgb) (fun e => h.kf g hgb e.symm))
  · show World.ownsRow _ _ _ _ _ _ _
    rw [ecells_append, List.length_append]
    exact hown
  · exact h.below.grown hg h.below.size (fun k e => by have := row_ge h.fr k e; omega)

theorem cells_newAt (w : World) (k : Nat) (hk : w.heap.size = k) (v0 v1 : Value) (t : TypeId) (j : Nat) (u : Value) (h : [v0, v1][j]? = some u) : (w.alloc (Obj.cells #[v0, v1] t)).cell? ((⟨k, 0, none⟩ : Addr).add j) = some u := by
  subst hk; exact cells_new2 w v0 v1 t j u h

theorem cut_any (ver : Int) (v : Value) (l : List Ext) (b : Int) (hr : Row w B v l) (hn : l.length ≤ 1000) (hl : OkL l) (hv : 0 ≤ ver ∧ ver < 1000000) (hb : -9223372036854775808 ≤ b ∧ b ≤ 9223372036854775807) :
    Calls Tryd.prog 6 #[ino ver v, .int .i64 b] w fun r w' => CutAt w ver l b r w' := by
  have hsize := fun w hr => size_any (w := w) (B := B) ver v l hr hn hl
  obtain ⟨i0, hi, hz0, hz1, hz2⟩ := info_parts info_ext
  obtain ⟨n, hln⟩ : ∃ n, l.length = n := ⟨_, rfl⟩
  obtain ⟨a, cap, hv0, hmx⟩ := row_slice hr
  rw [hln] at hv0 hmx hn
  subst hv0
  have HR : Hid (Row w B (.slice a n cap) l) := hr
  have HL : Hid (OkL l) := hl
  clear hr hl
  simp only [ino] at *
  obtain ⟨w0, hw0⟩ : ∃ w0, w0 = (w.alloc (Obj.cells #[.int .i64 ver, .slice a n cap] 26)).alloc (Obj.cells #[.int .i64 0, .slice none 0 0] 26) := ⟨_, rfl⟩
  have HB0 : Hid (Below w.heap.size w w0) := by rw [hw0]; exact ((Below.refl _ _).alloc (Nat.le_refl _) _).alloc (by simp) _
  have HX0 : Hid (w0.heap[w.heap.size]? = some (.cells #[.int .i64 ver, .slice a n cap] 26 (0, 0))) := by
    rw [hw0]; exact (Below.heap_alloc _ _ _ (by simp)).trans (heap_alloc_new w _)
  have HY0 : Hid (w0.heap[w.heap.size + 1]? = some (.cells #[.int .i64 0, .slice none 0 0] 26 (0, 0))) := by
    rw [hw0]
    have := heap_alloc_new (w.alloc (Obj.cells #[.int .i64 ver, .slice a n cap] 26)) (Obj.cells #[.int .i64 0, .slice none 0 0] 26)
    rw [World.size_alloc] at this
    exact this
  by_cases hneg : b < 0
  · have HC : Hid (¬ (0 ≤ b ∧ b ≤ sizeF l)) := fun h => by omega
    obtain ⟨y0, y1, y2, y3⟩ := agg2 HY0.out
    rw [hw0] at y0 y1 y2 y3
    go_enter Tryd.func6, Tryd.ntmps6
    go_wp2
    rw [← hw0]
    refine bodyPost_ret (res_cut _ (w.heap.size + 1) _ 0 none 0 0 _ _ rfl rfl rfl HY0.out) rfl ?_
    exact ⟨⟨0, .slice none 0 0, .slice none 0 0, by rw [if_neg HC.out]; rfl, fun h => absurd h HC.out, fun _ => ⟨rfl, rfl, rfl⟩⟩, HB0.out⟩
  · go_enter Tryd.func6, Tryd.ntmps6
    go_wp2_with fail
    rw [← hw0]
    refine (hsize w0 (row_below HR.out HB0.out (Nat.le_refl _))).mono ?_
    rintro r w1 ⟨rfl, hb1⟩
    have HX1 : Hid (w1.heap[w.heap.size]? = some (.cells #[.int .i64 ver, .slice a n cap] 26 (0, 0))) := (hb1.block _ (lt_of_heap HX0.out)).trans HX0.out
    have HY1 : Hid (w1.heap[w.heap.size + 1]? = some (.cells #[.int .i64 0, .slice none 0 0] 26 (0, 0))) := (hb1.block _ (lt_of_heap HY0.out)).trans HY0.out
    have HB1 : Hid (Below w.heap.size w w1) := HB0.out.trans (hb1.mono HB0.out.size)
    clear hsize hb1 hw0 HX0 HY0 HB0 w0
    by_cases hbig : sizeF l < b
    · have HC : Hid (¬ (0 ≤ b ∧ b ≤ sizeF l)) := fun h => by omega
      obtain ⟨y0, y1, y2, y3⟩ := agg2 HY1.out
      go_wp2
      refine bodyPost_ret (res_cut _ (w.heap.size + 1) _ 0 none 0 0 _ _ rfl rfl rfl (set2_heap HY1.out _ _)) rfl ?_
      exact ⟨⟨0, .slice none 0 0, .slice none 0 0, by rw [if_neg HC.out]; rfl, fun h => absurd h HC.out, fun _ => ⟨rfl, rfl, rfl⟩⟩, set2_below HB1.out _ (by omega) _ _⟩
    · have HC : Hid (0 ≤ b ∧ b ≤ sizeF l) := ⟨by omega, by omega⟩
      have hbz : b ≤ sizeF l := by omega
      have hb0 : 0 ≤ b := by omega
      have HBZ : Hid (b ≤ sizeF l) := hbz
      have hbd : decide (sizeF l < b) = false := decide_eq_false hbig
      obtain ⟨x0, x1, x2, x3⟩ := agg2 HX1.out
      have HI1 : Hid (CutI w (w1.alloc (Obj.cells #[.int .i64 ver, .slice none 0 0] 26)) w1.heap.size ver (.slice none 0 0) (.slice none 0 0) [] []) :=
        ⟨heap_alloc_new _ _, (Below.heap_alloc _ _ _ (lt_of_heap HY1.out)).trans HY1.out, World.ownsRow_nil _ _ _ _, World.ownsRow_nil _ _ _ _, HB1.out.alloc HB1.out.size _, lt_of_heap HY1.out, fun i h => (by cases h), fun i h => (by cases h), fun i h => (by cases h)⟩
      obtain ⟨yb, hyb⟩ : ∃ yb, yb = w1.heap.size := ⟨_, rfl⟩
      have hb2 : b ≤ 2048000 := by have := sizeF_le HL.out; rw [hln] at this; omega
      have xa : ∀ o, (w1.alloc o).cell? ⟨w.heap.size, 1, none⟩ = some (.slice a n cap) := fun o => (World.cell?_of_block (Below.heap_alloc _ _ _ (lt_of_heap HX1.out))).trans x1
      clear hneg hbz hbig hb HX1 HY1
      go_wp2_with fail
      rw [← hyb]
      go_loopw [1, 8, 28] (fun bv fv i wr => ∃ (k : Nat) (x : Int) (ka fa : Option Addr) (kc fc : Nat) (kl fl : List Ext), k ≤ n ∧ i = .int .i64 k ∧ bv = .int .i64 x ∧ 0 ≤ x ∧ x ≤ 2048000 ∧ fv = .slice fa fl.length fc ∧ kl ++ cutK (l.drop k) x = cutK l b ∧ fl ++ cutL (l.drop k) x = cutL l b ∧ CutI w wr yb ver (.slice ka kl.length kc) (.slice fa fl.length fc) kl fl) (fun _ _ i _ => n - (intOf i).toNat)
      case atStart => exact ⟨0, b, none, none, 0, 0, [], [], Nat.zero_le _, rfl, rfl, hb0, hb2, rfl, by simp, by simp, by rw [hyb]; exact HI1.out⟩
      case round =>
        clear hyb HI1 x0 x1 x2 x3 xa HB1
        obtain ⟨k, x, ka, fa, kc, fc, kl, fl, hk, rfl, rfl, hx0, hx1, rfl, hK, hF, hI⟩ := hrel
        have HI : Hid (CutI w wr yb ver (.slice ka kl.length kc) (.slice fa fl.length fc) kl fl) := hI
        have hkl : kl.length ≤ 1000 := by have h1 := cutK_length l b; rw [← hK, List.length_append] at h1; omega
        have hfl : fl.length ≤ 1000 := by have h1 := cutL_length l b; rw [← hF, List.length_append] at h1; omega
        have hyl : yb < wr.heap.size := lt_of_heap hI.y
        obtain ⟨z0, z1, z2, z3⟩ := agg2 hI.y
        clear hI
        by_cases hlt : k < n
        · have hRk : Row wr B _ l := row_below HR.out HI.out.below (Nat.le_refl _)
          obtain ⟨g, cap', he⟩ := row_some hRk (by omega)
          rw [hln] at he
          cases he
          obtain ⟨e0, e1⟩ := hRk.ext k (by omega)
          clear hRk
          have hok := HL.out.at k (by omega)
          rw [cutK_drop l k x (by omega)] at hK
          rw [cutL_drop l k x (by omega)] at hF
          unfold Ok at hok
          generalize l[k] = y at *
          obtain ⟨ep, el⟩ := y
          dsimp only at hok hK hF e0 e1
          have za : ∀ o, (wr.alloc o).cell? ⟨yb, 1, none⟩ = some (.slice ka kl.length kc) := fun o => (World.cell?_of_block (Below.heap_alloc _ _ _ hyl)).trans z1
          by_cases hc1 : el ≤ x
          · have hm1 : min x el = el := by omega
            have hm2 : (if el < x then el else x) = el := by split <;> omega
            rw [hm1] at hK hF
            rw [if_pos (by omega)] at hK
            rw [if_neg (by omega), List.nil_append] at hF
            have HK : Hid (kl ++ [⟨ep, el⟩] ++ cutK (l.drop (k + 1)) (x - el) = cutK l b) := by show _ = _; rw [← hK, List.append_assoc]
            have HF : Hid (fl ++ cutL (l.drop (k + 1)) (x - el) = cutL l b) := hF
            clear hK hF
            go_wp2_with (
              at_builtin
              refine wpList_append_near _ rfl _ _ 24 rfl (w.heap.size + 2) 40 i0 _ 2 16 Tryd.underlying24 hi hz0 hz1 hz2 rfl (by decide) (.slice ka kl.length kc) kl.length (ecells kl) rfl ((HI.out.alloc _).alloc _).kr ⟨wr.heap.size + 1, 0, none⟩ 1 1 [.int .i64 ep, .int .i64 el] rfl rfl (cells_newAt _ _ (World.size_alloc _ _) _ _ _) (by intro u hu; simp only [List.mem_cons, List.not_mem_nil, or_false] at hu; rcases hu with rfl | rfl <;> rfl) (by unfold maxLen; omega) (by omega) (by have := HI.out.below.size; have := lt_of_heap HI.out.res; simp; omega) ?_
              intro v5 w5 hown5 hgrow hnear
              obtain ⟨a5, cap5, hv5, hm5⟩ := row_slice hown5
              subst hv5
              obtain ⟨hk1, hk2⟩ := ((HI.out.alloc _).alloc _).keep (e := ⟨ep, el⟩) hown5 hgrow hnear
              have hx5 := (hgrow.block wr.heap.size (by simp; omega) (fun e => by have := row_lt HI.out.kr _ e.symm; omega)).trans ((Below.heap_alloc _ _ _ (by simp)).trans (heap_alloc_new wr _))
              have hx6 := (heap_setCell_other w5 ⟨yb, 1, none⟩ wr.heap.size (.slice a5 (kl.length + 1) cap5) (by show wr.heap.size ≠ yb; omega)).trans hx5
              have HI5 : Hid (CutI w (w5.setCell ⟨yb, 1, none⟩ (.slice a5 (kl.length + 1) cap5)) yb ver (.slice a5 (kl.length + 1) cap5) (.slice fa fl.length fc) (kl ++ [⟨ep, el⟩]) fl) := hk1
              obtain ⟨n0, n1, n2, n3⟩ := agg2 hk2
              obtain ⟨q0, q1, q2, q3⟩ := agg2 hx6
              clear hk1 hk2 hown5 hgrow hnear hx5 hx6 hm5)
            go_roundw
            case rel => exact ⟨k + 1, x - el, a5, fa, cap5, fc, kl ++ [⟨ep, el⟩], fl, by omega, by go_num, by go_num, by omega, by omega, rfl, HK.out, HF.out, by rw [List.length_append]; exact HI5.out⟩
            case measure => simp [intOf]; omega
          · by_cases hc2 : 0 < x
            · have hm1 : min x el = x := by omega
              have hm2 : (if el < x then el else x) = x := by split <;> omega
              rw [hm1] at hK hF
              rw [if_pos hc2] at hK
              rw [if_pos (by omega)] at hF
              have HK : Hid (kl ++ [⟨ep, x⟩] ++ cutK (l.drop (k + 1)) (x - x) = cutK l b) := by show _ = _; rw [← hK, List.append_assoc]
              have HF : Hid (fl ++ [⟨ep + x, el - x⟩] ++ cutL (l.drop (k + 1)) (x - x) = cutL l b) := by show _ = _; rw [← hF, List.append_assoc]
              clear hK hF
              go_wp2_with (first
                | (
                    at_builtin
                    refine wpList_append_near _ rfl _ _ 24 rfl (w.heap.size + 2) 40 i0 _ 2 16 Tryd.underlying24 hi hz0 hz1 hz2 rfl (by decide) (.slice ka kl.length kc) kl.length (ecells kl) rfl ((HI.out.alloc _).alloc _).kr ⟨wr.heap.size + 1, 0, none⟩ 1 1 [.int .i64 ep, .int .i64 x] rfl rfl (cells_newAt _ _ (World.size_alloc _ _) _ _ _) (by intro u hu; simp only [List.mem_cons, List.not_mem_nil, or_false] at hu; rcases hu with rfl | rfl <;> rfl) (by unfold maxLen; omega) (by omega) (by have := HI.out.below.size; have := lt_of_heap HI.out.res; simp; omega) ?_
                    intro v5 w5 hown5 hgrow hnear
                    obtain ⟨a5, cap5, hv5, hm5⟩ := row_slice hown5
                    subst hv5
                    obtain ⟨hk1, hk2⟩ := ((HI.out.alloc _).alloc _).keep (e := ⟨ep, x⟩) hown5 hgrow hnear
                    have hx5 := (hgrow.block wr.heap.size (by simp; omega) (fun e => by have := row_lt HI.out.kr _ e.symm; omega)).trans ((Below.heap_alloc _ _ _ (by simp)).trans (heap_alloc_new wr _))
                    have hx6 := (heap_setCell_other w5 ⟨yb, 1, none⟩ wr.heap.size (.slice a5 (kl.length + 1) cap5) (by show wr.heap.size ≠ yb; omega)).trans hx5
                    have HI5 : Hid (CutI w (w5.setCell ⟨yb, 1, none⟩ (.slice a5 (kl.length + 1) cap5)) yb ver (.slice a5 (kl.length + 1) cap5) (.slice fa fl.length fc) (kl ++ [⟨ep, x⟩]) fl) := hk1
                    obtain ⟨n0, n1, n2, n3⟩ := agg2 hk2
                    obtain ⟨q0, q1, q2, q3⟩ := agg2 hx6
                    clear hk1 hk2 hown5 hgrow hnear hx5 hx6 hm5)
                | (
                    at_builtin
                    refine wpList_append_near _ rfl _ _ 24 rfl (w.heap.size + 2) 40 i0 _ 2 16 Tryd.underlying24 hi hz0 hz1 hz2 rfl (by decide) (.slice fa fl.length fc) fl.length (ecells fl) rfl (HI5.out.alloc _).fr ⟨w5.heap.size, 0, none⟩ 1 1 [.int .i64 (ep + x), .int .i64 (el - x)] rfl rfl (cells_newAt _ _ (World.size_setCell _ _ _) _ _ _) (by intro u hu; simp only [List.mem_cons, List.not_mem_nil, or_false] at hu; rcases hu with rfl | rfl <;> rfl) (by unfold maxLen; omega) (by omega) (by have h1 := lt_of_heap HI5.out.res; simp only [World.size_alloc, World.size_setCell] at h1 ⊢; omega) ?_
                    intro v7 w7 hown7 hgrow7 hnear7
                    obtain ⟨a7, cap7, hv7, hm7⟩ := row_slice hown7
                    subst hv7
                    have HI7 : Hid (CutI w w7 yb ver (.slice a5 (kl.length + 1) cap5) (.slice a7 (fl.length + 1) cap7) (kl ++ [⟨ep, x⟩]) (fl ++ [⟨(ep + x), (el - x)⟩])) := (HI5.out.alloc _).free (e := ⟨(ep + x), (el - x)⟩) hown7 hgrow7 hnear7
                    clear hown7 hgrow7 hnear7 hm7))
              go_roundw
              case rel => exact ⟨k + 1, x - x, a5, a7, cap5, cap7, kl ++ [⟨ep, x⟩], fl ++ [⟨ep + x, el - x⟩], by omega, by go_num, by go_num, by omega, by omega, by rw [List.length_append]; rfl, HK.out, HF.out, by rw [List.length_append, List.length_append]; exact HI7.out⟩
              case measure => simp [intOf]; omega
            · obtain rfl : x = 0 := by omega
              have hm1 : min 0 el = 0 := by omega
              have hm2 : (if el < 0 then el else 0) = 0 := by split <;> omega
              rw [hm1] at hK hF
              rw [if_neg (by omega), List.nil_append] at hK
              rw [if_pos (by omega)] at hF
              have HK : Hid (kl ++ cutK (l.drop (k + 1)) (0 - 0) = cutK l b) := hK
              have HF : Hid (fl ++ [⟨ep + 0, el - 0⟩] ++ cutL (l.drop (k + 1)) (0 - 0) = cutL l b) := by show _ = _; rw [← hF, List.append_assoc]
              clear hK hF
              go_wp2_with (
                at_builtin
                refine wpList_append_near _ rfl _ _ 24 rfl (w.heap.size + 2) 40 i0 _ 2 16 Tryd.underlying24 hi hz0 hz1 hz2 rfl (by decide) (.slice fa fl.length fc) fl.length (ecells fl) rfl ((HI.out.alloc _).alloc _).fr ⟨wr.heap.size + 1, 0, none⟩ 1 1 [.int .i64 ep, .int .i64 el] rfl rfl (cells_newAt _ _ (World.size_alloc _ _) _ _ _) (by intro u hu; simp only [List.mem_cons, List.not_mem_nil, or_false] at hu; rcases hu with rfl | rfl <;> rfl) (by unfold maxLen; omega) (by omega) (by have h1 := lt_of_heap HI.out.res; simp only [World.size_alloc] at h1 ⊢; omega) ?_
                intro v7 w7 hown7 hgrow7 hnear7
                obtain ⟨a7, cap7, hv7, hm7⟩ := row_slice hown7
                subst hv7
                have HI7 : Hid (CutI w w7 yb ver (.slice ka kl.length kc) (.slice a7 (fl.length + 1) cap7) kl (fl ++ [⟨ep, el⟩])) := ((HI.out.alloc _).alloc _).free (e := ⟨ep, el⟩) hown7 hgrow7 hnear7
                clear hown7 hgrow7 hnear7 hm7)
              go_roundw
              case rel => exact ⟨k + 1, 0 - 0, ka, a7, kc, cap7, kl, fl ++ [⟨ep + 0, el - 0⟩], by omega, by go_num, by go_num, by omega, by omega, by rw [List.length_append]; rfl, HK.out, HF.out, by rw [List.length_append]; simpa using HI7.out⟩
              case measure => simp [intOf]; omega
        · obtain rfl : k = n := by omega
          have hdr : l.drop k = [] := List.drop_of_length_le (by omega)
          rw [hdr] at hK hF
          have HK : Hid (kl = cutK l b) := by show _ = _; rw [← hK]; simp [cutK]
          have HF : Hid (fl = cutL l b) := by show _ = _; rw [← hF]; simp [cutL]
          clear hK hF hdr
          obtain ⟨y0, y1, y2, y3⟩ := agg2 HI.out.res
          have hyge := HI.out.yge
          cases fl with
          | nil =>
            go_wp2
            refine bodyPost_ret (res_cut _ (w.heap.size + 1) _ ver ka kl.length kc _ _ rfl rfl rfl (set2_heap HI.out.res _ _)) rfl ?_
            refine ⟨⟨ver, .slice ka kl.length kc, _, by rw [if_pos HC.out]; rfl, fun _ => ⟨by rw [← HF.out, if_pos rfl], ?_, ?_⟩, fun h => absurd HC.out h⟩, set2_below HI.out.below _ (by omega) _ _⟩
            · rw [← HK.out]; exact row_base (row_keep HI.out.kr (fun g e => set2_other (by have := row_ge HI.out.kr g e; omega) _ _)) (by omega)
            · rw [← HF.out]; exact row_base (row_keep HI.out.fr (fun g e => set2_other (by have := row_ge HI.out.fr g e; omega) _ _)) (by omega)
          | cons f0 fr =>
            have hy6 : (wr.setCell ⟨yb, 0, none⟩ (.int .i64 (ver + 1))).heap[w.heap.size + 1]? = some (.cells #[.int .i64 0, .slice none 0 0] 26 (0, 0)) := (heap_setCell_other _ ⟨yb, 0, none⟩ _ _ (by show w.heap.size + 1 ≠ yb; omega)).trans HI.out.res
            have HY6 : Hid (_ = _) := hy6
            obtain ⟨u0, u1, u2, u3⟩ := agg2 hy6
            clear hy6 y0 y1 y2 y3
            have hfp : (0 : Int) < (fr.length : Int) + 1 := by omega
            go_wp2
            refine bodyPost_ret (res_cut _ (w.heap.size + 1) _ (ver + 1) ka kl.length kc _ _ rfl rfl rfl (set2_heap HY6.out _ _)) rfl ?_
            refine ⟨⟨ver + 1, .slice ka kl.length kc, _, by rw [if_pos HC.out]; rfl, fun _ => ⟨by rw [← HF.out, if_neg (by simp)], ?_, ?_⟩, fun h => absurd HC.out h⟩, set2_below (HI.out.below.setCell (p := ⟨yb, 0, none⟩) (by show w.heap.size ≤ yb; omega) _) _ (by omega) _ _⟩
            · rw [← HK.out]; exact row_base (row_keep HI.out.kr (fun g e => (set2_other (by have := row_ge HI.out.kr g e; omega) _ _).trans (heap_setCell_other _ ⟨yb, 0, none⟩ _ _ (HI.out.ky g e)))) (by omega)
            · rw [← HF.out]; exact row_base (row_keep HI.out.fr (fun g e => (set2_other (by have := row_ge HI.out.fr g e; omega) _ _).trans (heap_setCell_other _ ⟨yb, 0, none⟩ _ _ (HI.out.fy g e)))) (by omega)

end Go.Proofs.YtadimbpgdihjlaaDoor.Id
