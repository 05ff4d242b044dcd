/-
  The layout of a sector, the program's and the document's. Condition: the table of four steps holds what its initialiser lays.
-/
import Derived.Test.YtadimbpgdihjlabDoorSuPut
import Derived.Test.YtadimbpgdihjlabDoorLeCode
namespace Go.Proofs.YtadimbpgdihjlabDoor.Su
open Go.ChangeShapes Go.WideShapes Go.ChangeAt Go.RowKit
open Go.Proofs.YtadimbpgdihjlabDoor.Le (putF getF takeF inNumF noughtsF failF endF InS Only read_any innum_any noughts_any end_any InS_new)
open Go.Proofs.YtadimbpgdihjlabDoor.Mk (NibAt openF openM_any errV errV_pos errV_zero ext_bytes extract_data)

set_option maxRecDepth 100000
set_option maxHeartbeats 1000000

/-- All bytes from the fourth on are 0. -/
def restZ (b : ByteArray) : Bool := (b.data.toList.drop 4).all (fun c => c == 0)
theorem bodyG_eq (b : ByteArray) : bodyG b = if restZ b then (if RightP (getF (b.extract 0 2)) (getF (b.extract 2 4)) then (getF (b.extract 0 2), getF (b.extract 2 4), 0) else (0, 0, 17)) else (0, 0, 4) := rfl

theorem num_two (s : ByteArray) (h : 2 ≤ s.size) : inNumF s 0 2 = (getF (s.extract 0 2), s.extract 2 s.size, 0) := by
  unfold inNumF takeF
  rw [if_pos (by decide), if_neg (by decide), if_neg (by decide), if_neg (by omega)]
  rfl
theorem ext_ext (b : ByteArray) (i j k l : Nat) (_ : j ≤ b.size) (hl : i + l ≤ j) : (b.extract i j).extract k l = b.extract (i + k) (i + l) := by
  apply ext_bytes
  rw [extract_data, extract_data, extract_data, List.drop_take, List.drop_drop, List.take_take]
  congr 1
  omega
theorem nought_rest (b : ByteArray) (h : b.size = 504) : noughtsF (b.extract 4 504) 0 500 = (ByteArray.empty, if restZ b then 0 else 4) := by
  have hz : (b.extract 4 504).size = 500 := by simp; omega
  have e1 : (b.extract 4 504).extract 0 500 = b.extract 4 504 := ext_ext b 4 504 0 500 (by omega) (by omega)
  have e2 : (b.extract 4 504).extract 500 500 = ByteArray.empty := by
    apply ext_bytes
    rw [extract_data, Nat.sub_self, List.take_zero]
    rfl
  have hd : (b.extract 4 504).data.toList = b.data.toList.drop 4 := by
    rw [extract_data]
    exact List.take_of_length_le (by rw [List.length_drop, len_of h]; decide)
  have hr : restZ b = (b.extract 4 504).data.toList.all (fun c => c == 0) := by rw [hd]; rfl
  rw [hr]
  clear hr hd
  generalize b.extract 4 504 = u at *
  have ht : takeF u 0 500 = (u, ByteArray.empty, 0) := by
    unfold takeF
    rw [if_neg (by decide), if_neg (by decide), if_neg (by rw [hz]; decide), hz, show (500 : Int).toNat = 500 from rfl, e1, e2]
  unfold noughtsF
  rw [ht]
  by_cases hq : (u.data.toList.all fun c => c == 0) = true
  · rw [if_pos hq, if_pos hq]
  · rw [if_neg hq, if_neg hq]; rfl

theorem rest_yes (b : ByteArray) (h : ∀ k (hk : k < b.size), 4 ≤ k → b[k] = 0) : restZ b = true := by
  unfold restZ
  rw [List.all_eq_true]
  intro c hc
  obtain ⟨i, hi, rfl⟩ := List.getElem_of_mem hc
  rw [List.length_drop] at hi
  have := h (4 + i) (by simp at hi; omega) (by omega)
  rw [List.getElem_drop, beq_iff_eq]
  exact this
theorem rest_no (b : ByteArray) (k : Nat) (hk : k < b.size) (h4 : 4 ≤ k) (h : b[k] ≠ 0) : restZ b = false := by
  unfold restZ
  rw [List.all_eq_false]
  refine ⟨b[k], ?_, by simpa using h⟩
  rw [List.mem_iff_getElem]
  refine ⟨k - 4, by rw [List.length_drop, len_of rfl]; omega, ?_⟩
  rw [List.getElem_drop]
  simp only [show 4 + (k - 4) = k by omega]
  rfl

theorem set2_heap {w : World} {z : Nat} {a0 a1 : Value} {t : TypeId} (h : w.heap[z]? = some (.cells #[a0, a1] t (0, 0))) (v0 v1 : Value) : ((w.setCell ⟨z, 0, none⟩ v0).setCell ⟨z, 1, none⟩ v1).heap[z]? = some (.cells #[v0, v1] t (0, 0)) := by
  have h0 := heap_setCell_same w z 0 _ t v0 h
  exact heap_setCell_same _ z 1 _ t v1 h0
theorem set2_below {B : Nat} {w0 w : World} (h : Below B w0 w) (z : Nat) (hb : B ≤ z) (v0 v1 : Value) : Below B w0 ((w.setCell ⟨z, 0, none⟩ v0).setCell ⟨z, 1, none⟩ v1) :=
  (h.setCell (p := ⟨z, 0, none⟩) hb _).setCell (p := ⟨z, 1, none⟩) hb _
theorem agg2 {w : World} {z : Nat} {a0 a1 : Value} {t : TypeId} (h : w.heap[z]? = some (.cells #[a0, a1] t (0, 0))) : w.cell? ⟨z, 0, none⟩ = some a0 ∧ w.cell? ⟨z, 1, none⟩ = some a1 ∧ w.frozen? ⟨z, 0, none⟩ = false ∧ w.frozen? ⟨z, 1, none⟩ = false :=
  ⟨cell_of_heap h 0 _ rfl, cell_of_heap h 1 _ rfl, free_of_heap h 0, free_of_heap h 1⟩

theorem res_get (tm : Array Value) (rb : Nat) (W : World) (s j : Int) (er : Value) (h4 : tm[2]? = some (.pointer (some ⟨rb, 0, none⟩))) (h5 : tm.getD 3 undef = er) (h : W.heap[rb]? = some (.cells #[.int .i64 s, .int .i64 j] 26 (0, 0))) :
    (results Tryd.f7 tm).run Tryd.prog W = .ok (.tuple #[.agg #[.int .i64 s, .int .i64 j], er]) W := by
  obtain ⟨c0, c1, _⟩ := agg2 h
  clear h
  subst h5
  simp [results, Tryd.f7, go_sem, h4, c0, c1]

theorem get_err (s : ByteArray) (e : Int) (w : World) (hn : NibAt w) (ho : (openF 1 s).2 = e) (he : e ≠ 0) :
    Calls Tryd.prog 7 #[.string s] w fun r w' => r = .returned (.tuple #[.agg #[.int .i64 0, .int .i64 0], errV e]) ∧ Below w.heap.size w w' := by
  obtain ⟨w0, hw0⟩ : ∃ w0, w0 = w.alloc (.cells #[.int .i64 0, .int .i64 0] 26) := ⟨_, rfl⟩
  have HB0 : Hid (Below w.heap.size w w0) := by rw [hw0]; exact (Below.refl _ _).alloc (Nat.le_refl _) _
  have HR0 : Hid (w0.heap[w.heap.size]? = some (.cells #[.int .i64 0, .int .i64 0] 26 (0, 0))) := by rw [hw0]; exact heap_alloc_new _ _
  have hO := openM_any 1 s w0 (hn.below HB0.out)
  rw [ho, errV_pos he] at hO
  generalize (openF 1 s).1 = bd at *
  have HE : Hid (errV e = .iface 54 (.int .i64 e)) := errV_pos he
  clear ho he hn
  go_enter Tryd.func7, Tryd.ntmps7
  go_wp2_with fail
  rw [← hw0]
  refine hO.mono ?_
  rintro r w1 ⟨rfl, hb1⟩
  have HB1 : Hid (Below w.heap.size w w1) := HB0.out.trans (hb1.mono HB0.out.size)
  have HR1 : Hid (w1.heap[w.heap.size]? = some (.cells #[.int .i64 0, .int .i64 0] 26 (0, 0))) := (hb1.block _ (lt_of_heap HR0.out)).trans HR0.out
  clear hb1 hO hw0 HB0 HR0
  obtain ⟨r0, r1, f0, f1⟩ := agg2 HR1.out
  go_wp2
  refine bodyPost_ret (res_get _ w.heap.size _ 0 0 _ rfl rfl (set2_heap HR1.out _ _)) rfl ?_
  exact ⟨by rw [HE.out]; rfl, set2_below HB1.out _ (Nat.le_refl _) _ _⟩

theorem get_any (s b : ByteArray) (w : World) (hn : NibAt w) (ho : openF 1 s = (b, 0)) (hb : b.size = 504) :
    Calls Tryd.prog 7 #[.string s] w fun r w' => r = .returned (.tuple #[.agg #[.int .i64 (bodyG b).1, .int .i64 (bodyG b).2.1], errV (bodyG b).2.2]) ∧ Below w.heap.size w w' := by
  obtain ⟨w0, hw0⟩ : ∃ w0, w0 = w.alloc (.cells #[.int .i64 0, .int .i64 0] 26) := ⟨_, rfl⟩
  have HB0 : Hid (Below w.heap.size w w0) := by rw [hw0]; exact (Below.refl _ _).alloc (Nat.le_refl _) _
  have HR0 : Hid (w0.heap[w.heap.size]? = some (.cells #[.int .i64 0, .int .i64 0] 26 (0, 0))) := by rw [hw0]; exact heap_alloc_new _ _
  have hO := openM_any 1 s w0 (hn.below HB0.out)
  rw [ho, show errV ((b, (0 : Int)) : ByteArray × Int).2 = .nilIface from rfl] at hO
  dsimp only at hO
  clear ho hn
  have HG : Hid (bodyG b = _) := bodyG_eq b
  have HN1 : Hid (inNumF b 0 2 = (getF (b.extract 0 2), b.extract 2 504, 0)) := by show _ = _; rw [num_two b (by omega), hb]
  have HN2 : Hid (inNumF (b.extract 2 504) 0 2 = (getF (b.extract 2 4), b.extract 4 504, 0)) := by
    show _ = _
    have hz : (b.extract 2 504).size = 502 := by simp; omega
    rw [num_two _ (by omega), hz, ext_ext b 2 504 0 2 (by omega) (by omega), ext_ext b 2 504 2 502 (by omega) (by omega)]
  have HN3 : Hid (noughtsF (b.extract 4 504) 0 500 = (ByteArray.empty, if restZ b then 0 else 4)) := nought_rest b hb
  have hz4 : (b.extract 4 504).size ≤ 9223372036854775807 := by simp; omega
  obtain ⟨s1, hs1⟩ : ∃ x, getF (b.extract 0 2) = x := ⟨_, rfl⟩
  obtain ⟨j1, hj1⟩ : ∃ x, getF (b.extract 2 4) = x := ⟨_, rfl⟩
  rw [hs1] at HN1
  rw [hj1] at HN2
  rw [hs1, hj1] at HG
  clear hs1 hj1
  go_enter Tryd.func7, Tryd.ntmps7
  go_wp2_with fail
  rw [← hw0]
  refine hO.mono ?_
  rintro r w1 ⟨rfl, hb1⟩
  have HB1 : Hid (Below w.heap.size w w1) := HB0.out.trans (hb1.mono HB0.out.size)
  have HR1 : Hid (w1.heap[w.heap.size]? = some (.cells #[.int .i64 0, .int .i64 0] 26 (0, 0))) := (hb1.block _ (lt_of_heap HR0.out)).trans HR0.out
  clear hb1 hO hw0 HB0 HR0
  go_wp2_with fail
  refine (read_any w1 b).mono ?_
  rintro r w2 ⟨rfl, hw2⟩
  have HI2 : Hid (InS w2 w1.heap.size b 0) := by rw [hw2]; exact InS_new w1 b
  have HB2 : Hid (Below w.heap.size w w2) := by rw [hw2]; exact HB1.out.alloc HB1.out.size _
  have HR2 : Hid (w2.heap[w.heap.size]? = some (.cells #[.int .i64 0, .int .i64 0] 26 (0, 0))) := by rw [hw2]; exact (Below.heap_alloc _ _ _ (lt_of_heap HR1.out)).trans HR1.out
  have hlt : w.heap.size < w1.heap.size := lt_of_heap HR1.out
  clear hw2 HB1 HR1
  generalize w1.heap.size = c at *
  go_wp2_with fail
  refine (innum_any _ c b 0 2 HI2.out).mono ?_
  rintro r w3 ⟨rfl, hi3, ho3⟩
  rw [HN1.out] at hi3 ⊢
  dsimp only at hi3 ⊢
  have HI3 : Hid (InS w3 c (b.extract 2 504) 0) := hi3
  have HB3 : Hid (Below w.heap.size w w3) := HB2.out.trans (ho3.below (by omega))
  have HR3 : Hid (w3.heap[w.heap.size]? = some (.cells #[.int .i64 0, .int .i64 0] 26 (0, 0))) := (ho3.block _ (by omega)).trans HR2.out
  clear hi3 ho3 HI2 HB2 HR2 HN1
  go_wp2_with fail
  refine (innum_any _ c _ 0 2 HI3.out).mono ?_
  rintro r w4 ⟨rfl, hi4, ho4⟩
  rw [HN2.out] at hi4 ⊢
  dsimp only at hi4 ⊢
  have HI4 : Hid (InS (w4.alloc (.cells #[.int .i64 s1, .int .i64 j1] 26)) c (b.extract 4 504) 0) := hi4.kept ((Below.refl _ _).alloc (Nat.le_refl _) _)
  have hB4 : Below w.heap.size w w4 := HB3.out.trans (ho4.below (by omega))
  have HB4 : Hid (Below w.heap.size w (w4.alloc (.cells #[.int .i64 s1, .int .i64 j1] 26))) := hB4.alloc hB4.size _
  have hR4 : w4.heap[w.heap.size]? = some (.cells #[.int .i64 0, .int .i64 0] 26 (0, 0)) := (ho4.block _ (by omega)).trans HR3.out
  have HR4 : Hid ((w4.alloc (.cells #[.int .i64 s1, .int .i64 j1] 26)).heap[w.heap.size]? = some (.cells #[.int .i64 0, .int .i64 0] 26 (0, 0))) := (Below.heap_alloc _ _ _ (lt_of_heap hR4)).trans hR4
  have HL4 : Hid (LayAt w4.heap.size s1 j1 (w4.alloc (.cells #[.int .i64 s1, .int .i64 j1] 26))) := lay_new _ _ _ _
  have hc4 : c < w4.heap.size := hi4.lt
  clear hi4 ho4 hB4 hR4 HI3 HB3 HR3 HN2
  generalize hd : w4.heap.size = d at *
  have hN := noughts_any _ c (b.extract 4 504) 0 500 HI4.out hz4
  rw [HN3.out] at hN
  go_wp2_with fail
  refine hN.mono ?_
  rintro r w5 ⟨rfl, hi5, ho5⟩
  have HI5 : Hid (InS w5 c ByteArray.empty (if restZ b = true then 0 else 4)) := hi5
  have HB5 : Hid (Below w.heap.size w w5) := HB4.out.trans (ho5.below (by omega))
  have HR5 : Hid (w5.heap[w.heap.size]? = some (.cells #[.int .i64 0, .int .i64 0] 26 (0, 0))) := (ho5.block _ (by omega)).trans HR4.out
  have HL5 : Hid (LayAt d s1 j1 w5) := by
    have h1 := ho5.block d (by omega)
    exact ⟨(World.cell?_of_block h1).trans HL4.out.1, (World.cell?_of_block h1).trans HL4.out.2⟩
  clear hi5 ho5 hN HI4 HB4 HR4 HL4 HN3 hd
  have hE := end_any w5 c _ _ HI5.out
  by_cases hz : restZ b = true
  · rw [if_pos hz] at hE
    have HG2 : Hid (bodyG b = if RightP s1 j1 then (s1, j1, 0) else (0, 0, 17)) := by show _ = _; rw [HG.out, if_pos hz]
    rw [show Le.errV (endF ByteArray.empty 0) = .nilIface from rfl] at hE
    have hr := right_any s1 j1 w5
    clear HG hz
    go_wp2_with fail
    refine hE.mono ?_
    rintro r w6 ⟨rfl, rfl⟩
    obtain ⟨c0, c1⟩ := HL5.out.cells
    clear hE
    by_cases hp : RightP s1 j1
    · rw [show decide (RightP s1 j1) = true from decide_eq_true hp] at hr
      have HG3 : Hid (bodyG b = (s1, j1, 0)) := by show _ = _; rw [HG2.out, if_pos hp]
      clear hp HG2
      go_wp2_with fail
      refine hr.mono ?_
      rintro r w7 ⟨rfl, hb7⟩
      have HB7 : Hid (Below w.heap.size w w7) := HB5.out.trans (hb7.mono HB5.out.size)
      have HR7 : Hid (w7.heap[w.heap.size]? = some (.cells #[.int .i64 0, .int .i64 0] 26 (0, 0))) := (hb7.block _ (lt_of_heap HR5.out)).trans HR5.out
      have HL7 : Hid (LayAt d s1 j1 w7) := HL5.out.below hb7
      clear hb7 hr c0 c1
      obtain ⟨c0, c1⟩ := HL7.out.cells
      obtain ⟨r0, r1, f0, f1⟩ := agg2 HR7.out
      go_wp2
      refine bodyPost_ret (res_get _ w.heap.size _ s1 j1 _ rfl rfl (set2_heap HR7.out _ _)) rfl ?_
      exact ⟨by rw [HG3.out]; rfl, set2_below HB7.out _ (Nat.le_refl _) _ _⟩
    · rw [show decide (RightP s1 j1) = false from decide_eq_false hp] at hr
      have HG3 : Hid (bodyG b = (0, 0, 17)) := by show _ = _; rw [HG2.out, if_neg hp]
      clear hp HG2
      go_wp2_with fail
      refine hr.mono ?_
      rintro r w7 ⟨rfl, hb7⟩
      have HB7 : Hid (Below w.heap.size w w7) := HB5.out.trans (hb7.mono HB5.out.size)
      have HR7 : Hid (w7.heap[w.heap.size]? = some (.cells #[.int .i64 0, .int .i64 0] 26 (0, 0))) := (hb7.block _ (lt_of_heap HR5.out)).trans HR5.out
      clear hb7 hr c0 c1
      obtain ⟨r0, r1, f0, f1⟩ := agg2 HR7.out
      go_wp2
      refine bodyPost_ret (res_get _ w.heap.size _ 0 0 _ rfl rfl (set2_heap HR7.out _ _)) rfl ?_
      exact ⟨by rw [HG3.out]; rfl, set2_below HB7.out _ (Nat.le_refl _) _ _⟩
  · rw [if_neg hz] at hE
    have HG3 : Hid (bodyG b = (0, 0, 4)) := by show _ = _; rw [HG.out, if_neg hz]
    rw [show Le.errV (endF ByteArray.empty 4) = .iface 54 (.int .i64 4) from rfl] at hE
    clear HG hz
    go_wp2_with fail
    refine hE.mono ?_
    rintro r w6 ⟨rfl, rfl⟩
    clear hE
    obtain ⟨r0, r1, f0, f1⟩ := agg2 HR5.out
    go_wp2
    refine bodyPost_ret (res_get _ w.heap.size _ 0 0 _ rfl rfl (set2_heap HR5.out _ _)) rfl ?_
    exact ⟨by rw [HG3.out]; rfl, set2_below HB5.out _ (Nat.le_refl _) _ _⟩

end Go.Proofs.YtadimbpgdihjlabDoor.Su
