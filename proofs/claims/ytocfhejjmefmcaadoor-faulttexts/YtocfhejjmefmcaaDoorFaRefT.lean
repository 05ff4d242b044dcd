/-
  The document's word and text of a node. Condition: the number is from 1 to 19.
-/
import Derived.Test.YtocfhejjmefmcaaDoorFaMadeM
import Derived.Test.YtocfhejjmefmcaaDoorFaDig
import Derived.Test.YtocfhejjmefmcaaDoorFaTexts
import Derived.Deep.RegionHeld3
namespace Go.Proofs.YtocfhejjmefmcaaDoor.Fa
open Go.ChangeShapes Go.WideShapes Go.ChangeAt Go.RowKit Go.Proofs.Fa

/-- The cells of the document's words. -/
def wordCells : Array Value := (wordsL.map fun s => Value.string ⟨s.toArray⟩).toArray
theorem wordCells_at (i : Nat) (h : i < 20) : wordCells[i]? = some (.string ⟨(wordsL.getD i []).toArray⟩) := by
  have hl : wordsL.length = 20 := by decide +kernel
  simp only [wordCells, List.getElem?_toArray, List.getElem?_map, List.getD_eq_getElem?_getD]
  rw [List.getElem?_eq_getElem (by omega)]
  rfl

theorem textB_fault (y : Layer) (hj : y.join = false) (m : Int) (r : List Layer) : textB (some (some m)) (y :: r) = y.op ++ ⟨#[32]⟩ ++ itoaB y.pos ++ ⟨#[58, 32]⟩ ++ textB (some (some m)) r := by
  apply ba_ext
  simp [textB, textOf, flat, wordK, faultW, hj]
theorem textB_join (y : Layer) (hj : y.join = true) (m : Int) (r : List Layer) : textB (some (some m)) (y :: r) = textB (some (some m)) r ++ ⟨#[59, 32]⟩ ++ wordF y.k := by
  apply ba_ext
  simp [textB, textOf, flat, wordK, hj, textOf_append, sep]
theorem textB_nil (m : Int) : textB (some (some m)) [] = wordF m := by
  apply ba_ext
  simp [textB, textOf, flat, wordK]

set_option maxRecDepth 100000
set_option maxHeartbeats 2000000
theorem refword_any (n : Int) (w : World) (h1 : 1 ≤ n) (h2 : n ≤ 19) :
    Calls Tryd.prog 32 #[.int .i64 n] w fun e w' => e = .returned (.string (wordF n)) ∧ Below w.heap.size w w' := by
  have HF : Hid (wordF n = ⟨(wordsL.getD n.toNat []).toArray⟩) := wordF_in h1 (by omega)
  have hc : (w.alloc (.cells wordCells 9)).cell? ⟨w.heap.size, n.toNat, none⟩ = some (.string ⟨(wordsL.getD n.toNat []).toArray⟩) := by
    rw [World.cell?_alloc_new]; exact wordCells_at _ (by omega)
  have hw : wordCells = #[.string ⟨#[]⟩, .string ⟨#[97, 114, 103, 117, 109, 101, 110, 116]⟩, .string ⟨#[113, 117, 101, 117, 101]⟩, .string ⟨#[112, 111, 119, 101, 114]⟩, .string ⟨#[102, 111, 114, 109]⟩, .string ⟨#[115, 117, 109]⟩, .string ⟨#[115, 112, 97, 99, 101]⟩, .string ⟨#[106, 111, 117, 114, 110, 97, 108]⟩, .string ⟨#[110, 111, 110, 101]⟩, .string ⟨#[101, 120, 105, 115, 116, 115]⟩, .string ⟨#[108, 111, 110, 103]⟩, .string ⟨#[114, 101, 106, 101, 99, 116]⟩, .string ⟨#[102, 117, 101, 108]⟩, .string ⟨#[98, 111, 117, 110, 100]⟩, .string ⟨#[115, 116, 97, 108, 101]⟩, .string ⟨#[97, 98, 111, 114, 116]⟩, .string ⟨#[115, 116, 97, 116, 101]⟩, .string ⟨#[99, 111, 114, 114, 117, 112, 116]⟩, .string ⟨#[98, 117, 115, 121]⟩, .string ⟨#[101, 120, 116, 101, 110, 116, 115]⟩] := rfl
  rw [hw] at hc
  clear hw
  generalize (⟨(wordsL.getD n.toNat []).toArray⟩ : ByteArray) = s at *
  go_enter Tryd.func32, Tryd.ntmps32
  go_wp2
  go_ret
  exact ⟨by rw [HF.out]; rfl, (Below.refl _ _).alloc (Nat.le_refl _) _⟩

theorem wordF_sz (n : Int) : (wordF n).size ≤ 20 := wordF_size n
theorem textB_size (m : Int) (l : List Layer) : (textB (some (some m)) l).size ≤ 2064 * l.length + 1032 := by
  have := textOf_flat l ⟨#[]⟩ (by decide) (some (some m))
  unfold textB; simpa [ByteArray.size] using this

theorem reftext_base (n : Int) (w : World) (h1 : 1 ≤ n) (h2 : n ≤ 19) : Calls Tryd.prog 13 #[.agg #[.int .i64 3, .int .i64 0, .int .i64 n, .string ⟨#[]⟩, .slice none 0 0]] w fun e w' => e = .returned (.string (wordF n)) ∧ Below w.heap.size w w' := by
  have HB : Hid (Below w.heap.size w (w.alloc (.cells #[.int .i64 3, .int .i64 0, .int .i64 n, .string ⟨#[]⟩, .slice none 0 0] 28))) := (Below.refl _ _).alloc (Nat.le_refl _) _
  go_enter Tryd.func13, Tryd.ntmps13
  go_wp2_with fail
  refine (refword_any n _ h1 h2).mono ?_
  rintro e w1 ⟨rfl, hb⟩
  go_wp2
  go_ret
  exact ⟨rfl, HB.out.trans (hb.mono HB.out.size)⟩

theorem reftext_any (m : Int) (nb : Nat) (m1 : 1 ≤ m) (m2 : m ≤ 19) : ∀ (l : List Layer) (c0 c1 c2 c3 c4 : Value) (w : World), l.length ≤ 1000 → (∀ y ∈ l, 1 ≤ y.k ∧ y.k ≤ 19) → NodeAt w nb m l [c0, c1, c2, c3, c4] →
    Calls Tryd.prog 13 #[.agg #[c0, c1, c2, c3, c4]] w fun e w' => e = .returned (.string (textB (some (some m)) l)) ∧ Below w.heap.size w w'
  | [], c0, c1, c2, c3, c4, w, _, _, h => by
    have h' : [c0, c1, c2, c3, c4] = numNode m := h
    simp only [numNode, List.cons.injEq, and_true] at h'
    obtain ⟨rfl, rfl, rfl, rfl, rfl⟩ := h'
    rw [textB_nil]
    exact reftext_base m w m1 m2
  | y :: r, c0, c1, c2, c3, c4, w, hl, hk, h => by
    have IH := reftext_any m nb m1 m2 r
    obtain ⟨g, d0, d1, d2, d3, d4, hg, hr, h⟩ := h
    obtain ⟨f0, f1, f2, f3, s4, x4, y4, hcs⟩ := hr.five
    simp only [List.cons.injEq, and_true] at hcs
    obtain ⟨rfl, rfl, rfl, rfl, rfl⟩ := hcs
    have hl' : r.length ≤ 1000 := by simp at hl; omega
    have hky := hk y (by simp)
    have hzt := textB_size m r
    have hzo := y.sz
    have hzi := itoaB_size y.pos y.lo y.hi
    rcases h with ⟨hj, hc, hh⟩ | ⟨hj, hc, hh⟩
    · have hN := textB_join y hj m r
      rw [hN]
      simp only [List.cons.injEq, and_true] at hc
      obtain ⟨rfl, rfl, rfl, rfl, rfl⟩ := hc
      obtain ⟨w1, hw1⟩ : ∃ w1, w1 = w.alloc (Obj.cells #[.int .i64 2, .int .i64 0, .int .i64 0, .string ⟨#[]⟩, .slice (some ⟨g, 0, none⟩) 2 2] 28) := ⟨_, rfl⟩
      have hb1 : Below w.heap.size w w1 := by rw [hw1]; exact (Below.refl _ _).alloc (Nat.le_refl _) _
      have HB1 : Hid (Below w.heap.size w w1) := hb1
      have HIH : Hid (Calls Tryd.prog 13 #[.agg #[.int .i64 f0, .int .i64 f1, .int .i64 f2, .string f3, .slice s4 x4 y4]] w1 fun e w' => e = .returned (.string (textB (some (some m)) r)) ∧ Below w1.heap.size w1 w') := IH _ _ _ _ _ w1 hl' (fun z hz => hk z (by simp [hz])) (NodeAt.but (Nat.le_refl _) (But.below hb1) hr)
      have hh1 := (hb1.block g (lt_of_heap hh)).trans hh
      have HHG : Hid (w1.heap[g]? = _) := hh1
      have e0 := cell_of_heap hh1 0 _ rfl
      have e1 := cell_of_heap hh1 1 _ rfl
      have e2 := cell_of_heap hh1 2 _ rfl
      have e3 := cell_of_heap hh1 3 _ rfl
      have e4 := cell_of_heap hh1 4 _ rfl
      have hbx := heap_alloc_new w (Obj.cells #[.int .i64 2, .int .i64 0, .int .i64 0, .string ⟨#[]⟩, .slice (some ⟨g, 0, none⟩) 2 2] 28)
      rw [← hw1] at hbx
      have HBX : Hid (w1.heap[w.heap.size]? = _) := hbx
      have b0 := cell_of_heap hbx 0 _ rfl
      have b4 := cell_of_heap hbx 4 _ rfl
      have hzw := wordF_sz y.k
      have hem : ∀ x : ByteArray, (⟨#[]⟩ : ByteArray) ++ x = x := by intro x; apply ba_ext; simp
      generalize textB (some (some m)) r = tx at *
      clear IH hr hh hh1 hb1 hbx hN hj hk
      go_enter Tryd.func13, Tryd.ntmps13
      go_wp2_with fail
      rw [← hw1]
      clear hw1
      go_wp2_with fail
      refine wp_loop_rounds 3 ?_
      rw [rounds_succ]
      go_wp2_with fail
      refine HIH.out.mono ?_
      rintro e w2 ⟨rfl, hb2⟩
      have HB2 : Hid (Below w.heap.size w w2) := HB1.out.trans (hb2.mono HB1.out.size)
      have hbx2 := (hb2.block _ (lt_of_heap HBX.out)).trans HBX.out
      have hg2 := (hb2.block _ (lt_of_heap HHG.out)).trans HHG.out
      have HBX2 : Hid (w2.heap[w.heap.size]? = _) := hbx2
      have a4 := cell_of_heap hbx2 4 _ rfl
      have e5 : w2.cell? ⟨g, 5, none⟩ = some (.int .i64 3) := cell_of_heap hg2 5 _ rfl
      have e6 : w2.cell? ⟨g, 6, none⟩ = some (.int .i64 0) := cell_of_heap hg2 6 _ rfl
      have e7 : w2.cell? ⟨g, 7, none⟩ = some (.int .i64 y.k) := cell_of_heap hg2 7 _ rfl
      have e8 : w2.cell? ⟨g, 8, none⟩ = some (.string ⟨#[]⟩) := cell_of_heap hg2 8 _ rfl
      have e9 : w2.cell? ⟨g, 9, none⟩ = some (.slice none 0 0) := cell_of_heap hg2 9 _ rfl
      clear hb2 hbx2 hg2 e0 e1 e2 e3 e4 b0 b4
      go_wp2_with fail
      rw [rounds_succ]
      go_wp2_with fail
      refine (reftext_base y.k w2 hky.1 hky.2).mono ?_
      rintro e w3 ⟨rfl, hb3⟩
      have HB3 : Hid (Below w.heap.size w w3) := HB2.out.trans (hb3.mono HB2.out.size)
      have hbx3 := (hb3.block _ (lt_of_heap HBX2.out)).trans HBX2.out
      have b4 := cell_of_heap hbx3 4 _ rfl
      clear hb3 hbx3 a4 e5 e6 e7 e8 e9
      go_wp2_with fail
      rw [rounds_succ]
      go_wp2
      go_ret
      exact ⟨rfl, HB3.out⟩
    · have hN := textB_fault y hj m r
      rw [hN]
      simp only [List.cons.injEq, and_true] at hc
      obtain ⟨rfl, rfl, rfl, rfl, rfl⟩ := hc
      obtain ⟨w1, hw1⟩ : ∃ w1, w1 = w.alloc (Obj.cells #[.int .i64 1, .int .i64 y.pos, .int .i64 0, .string y.op, .slice (some ⟨g, 0, none⟩) 1 1] 28) := ⟨_, rfl⟩
      have hb1 : Below w.heap.size w w1 := by rw [hw1]; exact (Below.refl _ _).alloc (Nat.le_refl _) _
      have HB1 : Hid (Below w.heap.size w w1) := hb1
      have HR : Hid (NodeAt w1 nb m r [.int .i64 f0, .int .i64 f1, .int .i64 f2, .string f3, .slice s4 x4 y4]) := NodeAt.but (Nat.le_refl _) (But.below hb1) hr
      have HIH : Hid (∀ W : World, Below w1.heap.size w1 W → Calls Tryd.prog 13 #[.agg #[.int .i64 f0, .int .i64 f1, .int .i64 f2, .string f3, .slice s4 x4 y4]] W fun e w' => e = .returned (.string (textB (some (some m)) r)) ∧ Below W.heap.size W w') := fun W hW => IH _ _ _ _ _ W hl' (fun z hz => hk z (by simp [hz])) (NodeAt.but (Nat.le_refl _) (But.below hW) HR.out)
      have hh1 := (hb1.block g (lt_of_heap hh)).trans hh
      have hbx := heap_alloc_new w (Obj.cells #[.int .i64 1, .int .i64 y.pos, .int .i64 0, .string y.op, .slice (some ⟨g, 0, none⟩) 1 1] 28)
      rw [← hw1] at hbx
      have HSW : Hid (∀ W : World, Below w1.heap.size w1 W → W.cell? ⟨w.heap.size, 1, none⟩ = some (.int .i64 y.pos) ∧ W.cell? ⟨w.heap.size, 3, none⟩ = some (.string y.op) ∧ W.cell? ⟨w.heap.size, 4, none⟩ = some (.slice (some ⟨g, 0, none⟩) 1 1) ∧ W.cell? ⟨g, 0, none⟩ = some (.int .i64 f0) ∧ W.cell? ⟨g, 1, none⟩ = some (.int .i64 f1) ∧ W.cell? ⟨g, 2, none⟩ = some (.int .i64 f2) ∧ W.cell? ⟨g, 3, none⟩ = some (.string f3) ∧ W.cell? ⟨g, 4, none⟩ = some (.slice s4 x4 y4)) := by
        intro W hW
        have hX := (hW.block _ (lt_of_heap hbx)).trans hbx
        have hY := (hW.block _ (lt_of_heap hh1)).trans hh1
        exact ⟨cell_of_heap hX 1 _ rfl, cell_of_heap hX 3 _ rfl, cell_of_heap hX 4 _ rfl, cell_of_heap hY 0 _ rfl, cell_of_heap hY 1 _ rfl, cell_of_heap hY 2 _ rfl, cell_of_heap hY 3 _ rfl, cell_of_heap hY 4 _ rfl⟩
      have b0 := cell_of_heap hbx 0 _ rfl
      generalize textB (some (some m)) r = tx at *
      have hyl := y.lo
      have hyh := y.hi
      have z1 : ¬ (9223372036854775807 < y.op.size + 1) := by omega
      have z2 : ¬ (9223372036854775807 < y.op.size + 1 + (itoaB y.pos).size) := by omega
      have z3 : ¬ (9223372036854775807 < y.op.size + 1 + (itoaB y.pos).size + 2) := by omega
      have z4 : ¬ (9223372036854775807 < y.op.size + 1 + (itoaB y.pos).size + 2 + tx.size) := by omega
      clear IH hr hh hh1 hb1 hbx hN hj hk
      go_enter Tryd.func13, Tryd.ntmps13
      go_wp2_with fail
      rw [← hw1]
      clear hw1
      refine wp_region_held_drew (S := fun W => W.cell? ⟨w.heap.size, 1, none⟩ = some (.int .i64 y.pos) ∧ W.cell? ⟨w.heap.size, 3, none⟩ = some (.string y.op) ∧ W.cell? ⟨w.heap.size, 4, none⟩ = some (.slice (some ⟨g, 0, none⟩) 1 1) ∧ W.cell? ⟨g, 0, none⟩ = some (.int .i64 f0) ∧ W.cell? ⟨g, 1, none⟩ = some (.int .i64 f1) ∧ W.cell? ⟨g, 2, none⟩ = some (.int .i64 f2) ∧ W.cell? ⟨g, 3, none⟩ = some (.string f3) ∧ W.cell? ⟨g, 4, none⟩ = some (.slice s4 x4 y4)) (by kernel_rfl) (by exact HSW.out _ (Below.refl _ _).drew) (fun hHeld => ?_)
      change wpAnyH _ _ _ _ _ 15 (Array.replicate 15 false) _ _
      refine wpAnyH_take (i := 0) (oi := _) (v := _) (by simp only [List.getElem?_toArray, List.getElem?_cons_zero]; rfl) (by kernel_rfl) (by kernel_rfl) (by kernel_rfl) (by exact fun _ _ _ h => h) (Or.inl ⟨by rfl, by intro w' hSw; (try dsimp only at hSw); first | (go_simp; done) | (go_simp; with_reducible rfl)⟩) hHeld ?_
      simp only [Act.put, List.setIfInBounds_toArray, List.set_cons_zero, List.set_cons_succ]
      refine wpAnyH_take (i := 1) (oi := _) (v := _) (by simp only [List.getElem?_toArray, List.getElem?_cons_succ, List.getElem?_cons_zero]; rfl) (by kernel_rfl) (by kernel_rfl) (by kernel_rfl) (by exact fun _ _ _ h => h) (Or.inl ⟨by rfl, by intro w' hSw; (try dsimp only at hSw); first | (go_simp; done) | (go_simp; with_reducible rfl)⟩) hHeld ?_
      simp only [Act.put, List.setIfInBounds_toArray, List.set_cons_zero, List.set_cons_succ]
      refine wpAnyH_take (i := 2) (oi := _) (v := _) (by simp only [List.getElem?_toArray, List.getElem?_cons_succ, List.getElem?_cons_zero]; rfl) (by kernel_rfl) (by kernel_rfl) (by kernel_rfl) (by exact fun _ _ _ h => h) (Or.inl ⟨by rfl, by intro w' hSw; (try dsimp only at hSw); first | (go_simp; done) | (go_simp; with_reducible rfl)⟩) hHeld ?_
      simp only [Act.put, List.setIfInBounds_toArray, List.set_cons_zero, List.set_cons_succ]
      refine wpAnyH_take (i := 3) (oi := _) (v := _) (by simp only [List.getElem?_toArray, List.getElem?_cons_succ, List.getElem?_cons_zero]; rfl) (by kernel_rfl) (by kernel_rfl) (by kernel_rfl) (by exact fun _ _ _ h => h) (Or.inl ⟨by rfl, by intro w' hSw; (try dsimp only at hSw); first | (go_simp; done) | (go_simp; with_reducible rfl)⟩) hHeld ?_
      simp only [Act.put, List.setIfInBounds_toArray, List.set_cons_zero, List.set_cons_succ]
      refine wpAnyH_take (i := 4) (oi := _) (v := _) (by simp only [List.getElem?_toArray, List.getElem?_cons_succ, List.getElem?_cons_zero]; rfl) (by kernel_rfl) (by kernel_rfl) (by kernel_rfl) (by exact fun _ _ _ h => h) (Or.inl ⟨by rfl, by intro w' hSw; (try dsimp only at hSw); first | (go_simp; done) | (go_simp; with_reducible rfl)⟩) hHeld ?_
      simp only [Act.put, List.setIfInBounds_toArray, List.set_cons_zero, List.set_cons_succ]
      refine wpAnyH_take (i := 8) (oi := _) (v := _) (by simp only [List.getElem?_toArray, List.getElem?_cons_succ, List.getElem?_cons_zero]; rfl) (by kernel_rfl) (by kernel_rfl) (by kernel_rfl) (by exact fun _ _ _ h => h) (Or.inl ⟨by rfl, by intro w' hSw; (try dsimp only at hSw); first | (go_simp; done) | (go_simp; with_reducible rfl)⟩) hHeld ?_
      simp only [Act.put, List.setIfInBounds_toArray, List.set_cons_zero, List.set_cons_succ]
      refine wpAnyH_take (i := 9) (oi := _) (v := _) (by simp only [List.getElem?_toArray, List.getElem?_cons_succ, List.getElem?_cons_zero]; rfl) (by kernel_rfl) (by kernel_rfl) (by kernel_rfl) (by exact fun _ _ _ h => h) (Or.inl ⟨by rfl, by intro w' hSw; (try dsimp only at hSw); first | (go_simp; done) | (go_simp; with_reducible rfl)⟩) hHeld ?_
      simp only [Act.put, List.setIfInBounds_toArray, List.set_cons_zero, List.set_cons_succ]
      refine wpAnyH_take (i := 10) (oi := _) (v := _) (by simp only [List.getElem?_toArray, List.getElem?_cons_succ, List.getElem?_cons_zero]; rfl) (by kernel_rfl) (by kernel_rfl) (by kernel_rfl) (by exact fun _ _ _ h => h) (Or.inl ⟨by rfl, by intro w' hSw; (try dsimp only at hSw); first | (go_simp; done) | (go_simp; with_reducible rfl)⟩) hHeld ?_
      simp only [Act.put, List.setIfInBounds_toArray, List.set_cons_zero, List.set_cons_succ]
      refine wpAnyH_take (i := 11) (oi := _) (v := _) (by simp only [List.getElem?_toArray, List.getElem?_cons_succ, List.getElem?_cons_zero]; rfl) (by kernel_rfl) (by kernel_rfl) (by kernel_rfl) (by exact fun _ _ _ h => h) (Or.inl ⟨by rfl, by intro w' hSw; (try dsimp only at hSw); first | (go_simp; done) | (go_simp; with_reducible rfl)⟩) hHeld ?_
      simp only [Act.put, List.setIfInBounds_toArray, List.set_cons_zero, List.set_cons_succ]
      refine wpAnyH_ready (rs := [5]) (by kernel_rfl) (by simp) ?_
      refine AllReadyH.cons rfl (fun K hK => ?_) AllReadyH.nil
      go_simp
      go_wp2_with fail
      refine (digits_any y.pos.natAbs y.pos _ (Nat.le_refl _) hyl hyh).mono ?_
      rintro r w2 ⟨rfl, hb2⟩
      have HB2 : Hid (Below w1.heap.size w1 w2) := (Below.refl _ _).drew.trans (hb2.mono (by simp))
      clear hb2
      go_wp2_with fail
      refine hK.out _ _ (HSW.out _ HB2.out) (fun hHeld => ?_)
      clear hK K
      refine wpAnyH_take (i := 6) (oi := _) (v := _) (by simp only [List.getElem?_toArray, List.getElem?_cons_succ, List.getElem?_cons_zero]; rfl) (by kernel_rfl) (by kernel_rfl) (by kernel_rfl) (by exact fun _ _ _ h => h) (Or.inl ⟨by rfl, by intro w' hSw; (try dsimp only at hSw); first | (go_simp; done) | (go_simp; with_reducible rfl)⟩) hHeld ?_
      simp only [Act.put, List.setIfInBounds_toArray, List.set_cons_zero, List.set_cons_succ]
      refine wpAnyH_take (i := 7) (oi := _) (v := _) (by simp only [List.getElem?_toArray, List.getElem?_cons_succ, List.getElem?_cons_zero]; rfl) (by kernel_rfl) (by kernel_rfl) (by kernel_rfl) (by exact fun _ _ _ h => h) (Or.inl ⟨by rfl, by intro w' hSw; (try dsimp only at hSw); first | (go_simp; done) | (go_simp; with_reducible rfl)⟩) hHeld ?_
      simp only [Act.put, List.setIfInBounds_toArray, List.set_cons_zero, List.set_cons_succ]
      refine wpAnyH_ready (rs := [12]) (by kernel_rfl) (by simp) ?_
      refine AllReadyH.cons rfl (fun K hK => ?_) AllReadyH.nil
      go_simp
      go_wp2_with fail
      refine (HIH.out w2 HB2.out).mono ?_
      rintro r w3 ⟨rfl, hb3⟩
      have HB3 : Hid (Below w1.heap.size w1 w3) := HB2.out.trans (hb3.mono HB2.out.size)
      clear hb3
      go_wp2_with fail
      refine hK.out _ _ (HSW.out _ HB3.out) (fun hHeld => ?_)
      clear hK K
      refine wpAnyH_take (i := 13) (oi := _) (v := _) (by simp only [List.getElem?_toArray, List.getElem?_cons_succ, List.getElem?_cons_zero]; rfl) (by kernel_rfl) (by kernel_rfl) (by kernel_rfl) (by exact fun _ _ _ h => h) (Or.inl ⟨by rfl, by intro w' hSw; (try dsimp only at hSw); first | (go_simp; done) | (go_simp; with_reducible rfl)⟩) hHeld ?_
      simp only [Act.put, List.setIfInBounds_toArray, List.set_cons_zero, List.set_cons_succ]
      refine wpAnyH_take (i := 14) (oi := _) (v := _) (by simp only [List.getElem?_toArray, List.getElem?_cons_succ, List.getElem?_cons_zero]; rfl) (by kernel_rfl) (by kernel_rfl) (by kernel_rfl) (by exact fun _ _ _ h => h) (Or.inl ⟨by rfl, by intro w' hSw; (try dsimp only at hSw); first | (go_simp; done) | (go_simp; with_reducible rfl)⟩) hHeld ?_
      simp only [Act.put, List.setIfInBounds_toArray, List.set_cons_zero, List.set_cons_succ]
      refine wpAnyH_done (by kernel_rfl) ?_ _
      go_wp2
      go_ret
      exact ⟨rfl, HB1.out.trans (HB3.out.mono HB1.out.size)⟩

end Go.Proofs.YtocfhejjmefmcaaDoor.Fa
