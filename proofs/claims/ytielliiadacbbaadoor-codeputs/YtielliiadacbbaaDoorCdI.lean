/-
  The program's ins of an instruction's bytes. No condition.
-/
import Derived.Test.YtielliiadacbbaaDoorCdF
import Derived.Deep.RegionHeld3
import Derived.RegionTactic
import Derived.BigRegion
namespace Go.Proofs.YtielliiadacbbaaDoor.Cd
open Go.ChangeShapes Go.WideShapes Go.ChangeAt Go.RowKit
open Go.Proofs.YtielliiadacbbaaDoor.Nv (lt_of_heap lt_of_cell cell_of_heap free_of_heap)
open Go.Proofs.YtielliiadacbbaaDoor.Le (putF numF OutS num_any4 string_some errV getF leVal)

set_option maxRecDepth 100000
set_option maxHeartbeats 1000000

theorem ext_bytes {a b : ByteArray} (h : a.data.toList = b.data.toList) : a = b := ByteArray.ext (Array.toList_inj.1 h)
theorem extract_data (s : ByteArray) (i j : Nat) : (s.extract i j).data.toList = (s.data.toList.drop i).take (j - i) := by
  simp [ByteArray.data_extract, Array.toList_extract, List.extract_eq_take_drop]
/-- One byte of a number. -/
theorem one_byte (n : Int) (h0 : 0 ≤ n) (h1 : n < 256) : ∃ b : UInt8, (putF n (1 : Nat)).data.toList = [b] ∧ (b.toNat : Int) = n := by
  obtain ⟨_, hl, hg⟩ := numF_in [] n 1 (by decide) (by decide) h0 h1
  obtain ⟨b, hb⟩ : ∃ b, (putF n (1 : Nat)).data.toList = [b] := by
    match hm : (putF n (1 : Nat)).data.toList, hl with
    | [b], _ => exact ⟨b, rfl⟩
  refine ⟨b, hb, ?_⟩
  rw [Le.getF_yes (by show (putF n (1 : Nat)).data.size ≤ 7; rw [← Array.length_toList, hl]; decide), hb] at hg
  simpa [leVal] using hg
/-- Four cells of a block turned. -/
def put4 (w : World) (z : Nat) (v0 v1 v2 v3 : Value) : World := (((w.setCell ⟨z, 0, none⟩ v0).setCell ⟨z, 1, none⟩ v1).setCell ⟨z, 2, none⟩ v2).setCell ⟨z, 3, none⟩ v3
theorem put4_heap {w : World} {z : Nat} {a0 a1 a2 a3 : Value} {t : TypeId} (h : w.heap[z]? = some (.cells #[a0, a1, a2, a3] t (0, 0))) (v0 v1 v2 v3 : Value) : (put4 w z v0 v1 v2 v3).heap[z]? = some (.cells #[v0, v1, v2, v3] t (0, 0)) := by
  have h0 := heap_setCell_same w z 0 _ t v0 h
  have h1 := heap_setCell_same _ z 1 _ t v1 h0
  have h2 := heap_setCell_same _ z 2 _ t v2 h1
  exact heap_setCell_same _ z 3 _ t v3 h2
theorem put4_below {B : Nat} {w0 w : World} (h : Below B w0 w) (z : Nat) (hb : B ≤ z) (v0 v1 v2 v3 : Value) : Below B w0 (put4 w z v0 v1 v2 v3) :=
  (((h.setCell (p := ⟨z, 0, none⟩) hb _).setCell (p := ⟨z, 1, none⟩) hb _).setCell (p := ⟨z, 2, none⟩) hb _).setCell (p := ⟨z, 3, none⟩) hb _

theorem ins_raw (s tl : ByteArray) (x : In4) (hsz : s.size = 8) (h0 : ∀ hi, (((s[0]'hi).toNat : Nat) : Int) = x.op) (h1 : ∀ hi, (((s[1]'hi).toNat : Nat) : Int) = x.d) (h2 : ∀ hi, (((s[2]'hi).toNat : Nat) : Int) = x.s) (he : s.extract 4 8 = tl) (ht : getF tl = x.imm + 2147483648)
    (hi : -2147483648 ≤ x.imm ∧ x.imm ≤ 2147483647) (ho : 0 ≤ x.op ∧ x.op ≤ 255) (hd : 0 ≤ x.d ∧ x.d ≤ 255) (hs : 0 ≤ x.s ∧ x.s ≤ 255) (w : World) :
    Calls Tryd.prog 22 #[.string s] w fun r w' => r = .returned (.agg #[.int .i64 x.op, .int .i64 x.d, .int .i64 x.s, .int .i64 x.imm]) ∧ Below w.heap.size w w' := by
  have hG := fun w => Le.get_any tl w
  rw [ht] at hG
  have HG : Hid (∀ w, _) := hG
  obtain ⟨w0, hw0⟩ : ∃ w0, w0 = w.alloc (Obj.cells #[.int .i64 0, .int .i64 0, .int .i64 0, .int .i64 0] 27) := ⟨_, rfl⟩
  have HB0 : Hid (Below w.heap.size w w0) := by rw [hw0]; exact (Below.refl _ _).alloc (Nat.le_refl _) _
  have HR0 : Hid (w0.heap[w.heap.size]? = some (.cells #[.int .i64 0, .int .i64 0, .int .i64 0, .int .i64 0] 27 (0, 0))) := by rw [hw0]; exact heap_alloc_new w _
  have hw : IntKind.i64.wrap x.imm = x.imm := IntWalk.i64_in _ (by omega)
  have hwo : IntKind.i64.wrap x.op = x.op := IntWalk.i64_in _ (by omega)
  have hwd : IntKind.i64.wrap x.d = x.d := IntWalk.i64_in _ (by omega)
  have hws : IntKind.i64.wrap x.s = x.s := IntWalk.i64_in _ (by omega)
  clear hG hi ho hd hs ht
  go_enter Tryd.func22, Tryd.ntmps22
  go_wp2_with fail
  rw [← hw0]
  clear hw0
  refine wp_region_held_drew (S := fun _ => True) (by kernel_rfl) (by exact True.intro) (fun hHeld => ?_)
  change wpAnyH _ _ _ _ _ 15 (Array.replicate 15 false) _ _
  refine wpAnyH_take (i := 0) (oi := _) (v := _) (by simp only [List.getElem?_toArray, List.getElem?_cons_zero]; rfl) (by kernel_rfl) (by kernel_rfl) (by kernel_rfl) (by exact fun _ _ _ h => h) (Or.inl ⟨by rfl, by intro w' hSw; (try dsimp only at hSw); first | (go_simp; done) | (go_simp; with_reducible rfl)⟩) hHeld ?_
  simp only [Act.put, List.setIfInBounds_toArray, List.set_cons_zero, List.set_cons_succ]
  refine wpAnyH_take (i := 1) (oi := _) (v := _) (by simp only [List.getElem?_toArray, List.getElem?_cons_succ, List.getElem?_cons_zero]; rfl) (by kernel_rfl) (by kernel_rfl) (by kernel_rfl) (by exact fun _ _ _ h => h) (Or.inl ⟨by rfl, by intro w' hSw; (try dsimp only at hSw); first | (go_simp; done) | (go_simp; with_reducible rfl)⟩) hHeld ?_
  simp only [Act.put, List.setIfInBounds_toArray, List.set_cons_zero, List.set_cons_succ]
  refine wpAnyH_take (i := 2) (oi := _) (v := _) (by simp only [List.getElem?_toArray, List.getElem?_cons_succ, List.getElem?_cons_zero]; rfl) (by kernel_rfl) (by kernel_rfl) (by kernel_rfl) (by exact fun _ _ _ h => h) (Or.inl ⟨by rfl, by intro w' hSw; (try dsimp only at hSw); first | (go_simp; done) | (go_simp; with_reducible rfl)⟩) hHeld ?_
  simp only [Act.put, List.setIfInBounds_toArray, List.set_cons_zero, List.set_cons_succ]
  refine wpAnyH_take (i := 3) (oi := _) (v := _) (by simp only [List.getElem?_toArray, List.getElem?_cons_succ, List.getElem?_cons_zero]; rfl) (by kernel_rfl) (by kernel_rfl) (by kernel_rfl) (by exact fun _ _ _ h => h) (Or.inl ⟨by rfl, by intro w' hSw; (try dsimp only at hSw); first | (go_simp; done) | (go_simp; with_reducible rfl)⟩) hHeld ?_
  simp only [Act.put, List.setIfInBounds_toArray, List.set_cons_zero, List.set_cons_succ]
  refine wpAnyH_take (i := 4) (oi := _) (v := _) (by simp only [List.getElem?_toArray, List.getElem?_cons_succ, List.getElem?_cons_zero]; rfl) (by kernel_rfl) (by kernel_rfl) (by kernel_rfl) (by exact fun _ _ _ h => h) (Or.inl ⟨by rfl, by intro w' hSw; (try dsimp only at hSw); first | (go_simp; done) | (go_simp; with_reducible rfl)⟩) hHeld ?_
  simp only [Act.put, List.setIfInBounds_toArray, List.set_cons_zero, List.set_cons_succ]
  refine wpAnyH_take (i := 5) (oi := _) (v := _) (by simp only [List.getElem?_toArray, List.getElem?_cons_succ, List.getElem?_cons_zero]; rfl) (by kernel_rfl) (by kernel_rfl) (by kernel_rfl) (by exact fun _ _ _ h => h) (Or.inl ⟨by rfl, by intro w' hSw; (try dsimp only at hSw); first | (go_simp; done) | (go_simp; with_reducible rfl)⟩) hHeld ?_
  simp only [Act.put, List.setIfInBounds_toArray, List.set_cons_zero, List.set_cons_succ]
  refine wpAnyH_take (i := 6) (oi := _) (v := _) (by simp only [List.getElem?_toArray, List.getElem?_cons_succ, List.getElem?_cons_zero]; rfl) (by kernel_rfl) (by kernel_rfl) (by kernel_rfl) (by exact fun _ _ _ h => h) (Or.inl ⟨by rfl, by intro w' hSw; (try dsimp only at hSw); first | (go_simp; done) | (go_simp; with_reducible rfl)⟩) hHeld ?_
  simp only [Act.put, List.setIfInBounds_toArray, List.set_cons_zero, List.set_cons_succ]
  refine wpAnyH_take (i := 7) (oi := _) (v := _) (by simp only [List.getElem?_toArray, List.getElem?_cons_succ, List.getElem?_cons_zero]; rfl) (by kernel_rfl) (by kernel_rfl) (by kernel_rfl) (by exact fun _ _ _ h => h) (Or.inl ⟨by rfl, by intro w' hSw; (try dsimp only at hSw); first | (go_simp; done) | (go_simp; with_reducible rfl)⟩) hHeld ?_
  simp only [Act.put, List.setIfInBounds_toArray, List.set_cons_zero, List.set_cons_succ]
  refine wpAnyH_take (i := 8) (oi := _) (v := _) (by simp only [List.getElem?_toArray, List.getElem?_cons_succ, List.getElem?_cons_zero]; rfl) (by kernel_rfl) (by kernel_rfl) (by kernel_rfl) (by exact fun _ _ _ h => h) (Or.inl ⟨by rfl, by intro w' hSw; (try dsimp only at hSw); first | (go_simp; done) | (go_simp; with_reducible rfl)⟩) hHeld ?_
  simp only [Act.put, List.setIfInBounds_toArray, List.set_cons_zero, List.set_cons_succ]
  refine wpAnyH_take (i := 9) (oi := _) (v := _) (by simp only [List.getElem?_toArray, List.getElem?_cons_succ, List.getElem?_cons_zero]; rfl) (by kernel_rfl) (by kernel_rfl) (by kernel_rfl) (by exact fun _ _ _ h => h) (Or.inl ⟨by rfl, by intro w' hSw; (try dsimp only at hSw); first | (go_simp; done) | (go_simp; with_reducible rfl)⟩) hHeld ?_
  simp only [Act.put, List.setIfInBounds_toArray, List.set_cons_zero, List.set_cons_succ]
  refine wpAnyH_take (i := 10) (oi := _) (v := _) (by simp only [List.getElem?_toArray, List.getElem?_cons_succ, List.getElem?_cons_zero]; rfl) (by kernel_rfl) (by kernel_rfl) (by kernel_rfl) (by exact fun _ _ _ h => h) (Or.inl ⟨by rfl, by intro w' hSw; (try dsimp only at hSw); first | (go_simp; done) | (go_simp; with_reducible rfl)⟩) hHeld ?_
  simp only [Act.put, List.setIfInBounds_toArray, List.set_cons_zero, List.set_cons_succ]
  refine wpAnyH_ready (rs := [11]) (by kernel_rfl) (by simp) ?_
  refine AllReadyH.cons rfl (fun K hK => ?_) AllReadyH.nil
  go_simp
  go_wp2_with fail
  refine (HG.out _).mono ?_
  rintro r w1 ⟨rfl, hw1⟩
  have HB1 : Hid (Below w.heap.size w w1) := by rw [hw1]; first | exact HB0.out.drew | exact HB0.out
  have HR1 : Hid (w1.heap[w.heap.size]? = some (.cells #[.int .i64 0, .int .i64 0, .int .i64 0, .int .i64 0] 27 (0, 0))) := by rw [hw1]; exact HR0.out
  refine hK.out _ _ True.intro (fun hHeld => ?_)
  clear hK K hw1
  refine wpAnyH_take (i := 12) (oi := _) (v := _) (by simp only [List.getElem?_toArray, List.getElem?_cons_succ, List.getElem?_cons_zero]; rfl) (by kernel_rfl) (by kernel_rfl) (by kernel_rfl) (by exact fun _ _ _ h => h) (Or.inl ⟨by rfl, by intro w' hSw; (try dsimp only at hSw); first | (go_simp; done) | (go_simp; with_reducible rfl)⟩) hHeld ?_
  simp only [Act.put, List.setIfInBounds_toArray, List.set_cons_zero, List.set_cons_succ]
  refine wpAnyH_take (i := 13) (oi := _) (v := _) (by simp only [List.getElem?_toArray, List.getElem?_cons_succ, List.getElem?_cons_zero]; rfl) (by kernel_rfl) (by kernel_rfl) (by kernel_rfl) (by exact fun _ _ _ h => h) (Or.inl ⟨by rfl, by intro w' hSw; (try dsimp only at hSw); first | (go_simp; done) | (go_simp; with_reducible rfl)⟩) hHeld ?_
  simp only [Act.put, List.setIfInBounds_toArray, List.set_cons_zero, List.set_cons_succ]
  refine wpAnyH_ready (rs := [14]) (by kernel_rfl) (by simp) ?_
  refine AllReadyH.cons rfl (fun K hK => ?_) AllReadyH.nil
  have y0 := cell_of_heap HR1.out 0 _ rfl
  have y1 := cell_of_heap HR1.out 1 _ rfl
  have y2 := cell_of_heap HR1.out 2 _ rfl
  have y3 := cell_of_heap HR1.out 3 _ rfl
  have f0 := free_of_heap HR1.out 0
  have f1 := free_of_heap HR1.out 1
  have f2 := free_of_heap HR1.out 2
  have f3 := free_of_heap HR1.out 3
  go_simp
  refine hK.out _ _ True.intro (fun hHeld => ?_)
  clear hK K y0 y1 y2 y3 f0 f1 f2 f3
  refine wpAnyH_done (by kernel_rfl) ?_ _
  go_wp2
  refine bodyPost_ret (results_cell_row rfl _ _ _ _ _ _ _ rfl (put4_heap HR1.out _ _ _ _) Tryd.underlying27 rfl (by kernel_rfl)) rfl ?_
  exact ⟨rfl, put4_below HB1.out _ (Nat.le_refl _) _ _ _ _⟩

theorem ins_any (x : In4) (hp : RightP x) (w : World) :
    Calls Tryd.prog 22 #[.string ⟨(insB x).toArray⟩] w fun r w' => r = .returned (.agg #[.int .i64 x.op, .int .i64 x.d, .int .i64 x.s, .int .i64 x.imm]) ∧ Below w.heap.size w w' := by
  obtain ⟨s, hs⟩ : ∃ s : ByteArray, s = ⟨(insB x).toArray⟩ := ⟨_, rfl⟩
  rw [← hs]
  have hi := hp.imm
  have hsz : s.size = 8 := by rw [hs]; show (insB x).toArray.size = _; rw [List.size_toArray, insB_length hp]
  obtain ⟨c0, e0, g0⟩ := one_byte x.op hp.1.1 (by have := hp.1.2; omega)
  obtain ⟨c1, e1, g1⟩ := one_byte x.d hp.2.1.1 (by have := hp.2.1.2; omega)
  obtain ⟨c2, e2, g2⟩ := one_byte x.s hp.2.2.1.1 (by have := hp.2.2.1.2; omega)
  have hil : insB x = c0 :: c1 :: c2 :: ((putF 0 (1 : Nat)).data.toList ++ (putF (x.imm + 2147483648) (4 : Nat)).data.toList) := by
    simp only [insB, insN, insS, insD, insA, e0, e1, e2, List.cons_append, List.nil_append]
  have hget : ∀ i v, (insB x)[i]? = some v → ∀ hi, (s[i]'hi) = v := fun i v hv hi => by subst hs; exact s_get _ _ _ hi hv
  have h0 : ∀ hi, (((s[0]'hi).toNat : Nat) : Int) = x.op := fun hi => by rw [hget 0 c0 (by rw [hil]; rfl) hi]; exact g0
  have h1 : ∀ hi, (((s[1]'hi).toNat : Nat) : Int) = x.d := fun hi => by rw [hget 1 c1 (by rw [hil]; rfl) hi]; exact g1
  have h2 : ∀ hi, (((s[2]'hi).toNat : Nat) : Int) = x.s := fun hi => by rw [hget 2 c2 (by rw [hil]; rfl) hi]; exact g2
  have he : s.extract 4 8 = putF (x.imm + 2147483648) (4 : Nat) := by
    apply ext_bytes
    rw [extract_data, hs]
    show ((insB x).drop 4).take 4 = _
    obtain ⟨p1, p2, p3, p4, p5⟩ := parts hp
    rw [show insB x = insN x ++ (putF (x.imm + 2147483648) (4 : Nat)).data.toList from rfl, List.drop_left' (by simp only [insN, insS, insD, insA, List.length_append, p1, p2, p3, p4]), List.take_of_length_le (Nat.le_of_eq p5)]
  have h3 := (numF_in [] (x.imm + 2147483648) 4 (by decide) (by decide) (by omega) (by show x.imm + 2147483648 < 4294967296; omega)).2.2
  have b1 := hp.1
  have b2 := hp.2.1
  have b3 := hp.2.2.1
  exact ins_raw s _ x hsz h0 h1 h2 he h3 hi ⟨b1.1, by omega⟩ ⟨b2.1, by omega⟩ ⟨b3.1, by omega⟩ w

end Go.Proofs.YtielliiadacbbaaDoor.Cd
