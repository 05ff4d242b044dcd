/-
  The statement on which numbers and which faults an error is, as a walk. Condition: the words, the powers of ten and errors.errorType lie as their initialisers lay them.
-/
import Derived.Test.YtiaigboichmepaaDoorFaHas
import Derived.Test.YtiaigboichmepaaDoorFaMade
import Derived.Test.YtiaigboichmepaaDoorFaSpeak
import Derived.Deep.RegionHeld3
namespace Go.Proofs.YtiaigboichmepaaDoor.Fa
open Go.ChangeShapes Go.WideShapes Go.ChangeAt Go.RowKit Go.Proofs.Fa
open Go.Proofs.YtiaigboichmepaaDoor.St (ItemsAt)
open Go.Proofs.YtiaigboichmepaaDoor.As (ErrT)

theorem any_take (xs : List Int) (k : Int) (j : Nat) (h : j < xs.length) : (xs.take (j + 1)).any (fun x => x == k) = ((xs.take j).any (fun x => x == k) || (xs[j] == k)) := by
  rw [List.take_succ_eq_append_getElem h, List.any_append]; simp

set_option maxRecDepth 100000
set_option maxHeartbeats 8000000
theorem faultIs_walk (n : Int) (a : Option Addr) (len cap : Nat) (L : Nat → St.Item) (aop : ByteArray) (aat an : Int) (aj : Bool) (w : World) (hlen : len ≤ maxLen) (hI : ItemsAt w a len L) (hL : Laid w) :
    Calls Tryd.prog 4 #[.int .i64 n, .slice a len cap, .agg #[.string aop, .int .i64 aat, .int .i64 an, .bool aj]] w fun e w' => e = .returned (.bool true) ∧ Below w.heap.size w w' := by
  have HLen : Hid (len ≤ maxLen) := hlen
  clear hlen
  have HI : Hid (ItemsAt w a len L) := hI
  have HL : Hid (Laid w) := hL
  clear hI hL
  obtain ⟨w0, hw0⟩ : ∃ w0, w0 = w.alloc (Obj.cells #[.string aop, .int .i64 aat, .int .i64 an, .bool aj] 42) := ⟨_, rfl⟩
  have HB0 : Hid (Below w.heap.size w w0) := by rw [hw0]; exact (Below.refl _ _).alloc (Nat.le_refl _) _
  have HX0 : Hid (w0.heap[w.heap.size]? = some (.cells #[.string aop, .int .i64 aat, .int .i64 an, .bool aj] 42 (0, 0))) := by rw [hw0]; exact heap_alloc_new _ _
  obtain ⟨k, ek, hk1, hk2, hk3⟩ := num19 an
  clear hk3
  obtain ⟨la, ea, hla, _⟩ := cut20 aop
  have ea' : min (aop.size : Int) 20 = (la : Int) := by rw [← ea]; split <;> omega
  have hll : (layers L (min len 10)).length ≤ 1000 := by rw [layers_len]; omega
  go_enter Tryd.func4, Tryd.ntmps4
  go_wp2_with fail
  rw [← hw0]
  clear hw0
  refine (speaks_any _ (HL.out.below HB0.out)).mono ?_
  rintro e w1 ⟨rfl, hb1⟩
  have HB1 : Hid (Below w.heap.size w w1) := HB0.out.trans (hb1.mono HB0.out.size)
  have HX1 : Hid (w1.heap[w.heap.size]? = _) := (hb1.block _ (lt_of_heap HX0.out)).trans HX0.out
  clear hb1
  go_wp2_with fail
  refine (made_any n a len cap L w1 HLen.out (HI.out.below HB1.out (Nat.le_refl _))).mono ?_
  rintro e w2 ⟨⟨v, c0, c1, c2, c3, c4, nb, rfl, hE, hN⟩, hb2⟩
  obtain ⟨f0, f1, f2, f3, s4, x4, y4, hcs⟩ := hN.five
  simp only [List.cons.injEq, and_true] at hcs
  obtain ⟨rfl, rfl, rfl, rfl, rfl⟩ := hcs
  obtain ⟨te, ue, rfl⟩ := hE.iface
  have HB2 : Hid (Below w.heap.size w w2) := HB1.out.trans (hb2.mono HB1.out.size)
  have HX2 : Hid (w2.heap[w.heap.size]? = _) := (hb2.block _ (lt_of_heap HX1.out)).trans HX1.out
  have HE2 : Hid (ErrAt w2 (some (some (1 + n % 19))) (layers L (min len 10)) (.iface te ue)) := hE
  have HN2 : Hid (NodeAt w2 nb (1 + n % 19) (layers L (min len 10)) [.int .i64 f0, .int .i64 f1, .int .i64 f2, .string f3, .slice s4 x4 y4]) := hN
  clear hb2 hE hN
  generalize 1 + n % 19 = m at *
  generalize layers L (min len 10) = l at *
  obtain ⟨w3, hw3⟩ : ∃ w3, w3 = w2.alloc (Obj.cells #[.int .i64 f0, .int .i64 f1, .int .i64 f2, .string f3, .slice s4 x4 y4] 28) := ⟨_, rfl⟩
  have hb3 : Below w2.heap.size w2 w3 := by rw [hw3]; exact (Below.refl _ _).alloc (Nat.le_refl _) _
  have HB3 : Hid (Below w.heap.size w w3) := HB2.out.trans (hb3.mono HB2.out.size)
  have HE3 : Hid (ErrAt w3 (some (some m)) l (.iface te ue)) := ErrAt.below hb3 HE2.out
  have HN3 : Hid (NodeAt w3 nb m l [.int .i64 f0, .int .i64 f1, .int .i64 f2, .string f3, .slice s4 x4 y4]) := NodeAt.but (Nat.le_refl _) (But.below hb3) HN2.out
  have HX3 : Hid (w3.heap[w.heap.size]? = _) := (hb3.block _ (lt_of_heap HX2.out)).trans HX2.out
  have HY3 : Hid (w3.heap[w2.heap.size]? = some (.cells #[.int .i64 f0, .int .i64 f1, .int .i64 f2, .string f3, .slice s4 x4 y4] 28 (0, 0))) := by
    show w3.heap[w2.heap.size]? = _
    rw [hw3]; exact heap_alloc_new _ _
  have i0 : (w2.alloc (Obj.cells #[.int .i64 f0, .int .i64 f1, .int .i64 f2, .string f3, .slice s4 x4 y4] 28)).cell? ⟨w.heap.size, 2, none⟩ = some (.int .i64 an) := by rw [← hw3]; exact cell_of_heap HX3.out 2 _ rfl
  clear hb3 HE2 HN2
  go_wp2_with fail
  rw [← hw3]
  clear hw3
  generalize w2.heap.size = z at *
  refine (nums_any m nb l _ _ _ _ _ w3 hll HN3.out).mono ?_
  rintro e w4 ⟨v, rfl, hown, hb4⟩
  have hnl := numsOf_len m l
  obtain ⟨q, cq, rfl, hsrc⟩ := own_src hown hnl.1
  have HQ4 : Hid (∀ j (h : j < (numsOf m l).length), w4.cell? ⟨q, j, none⟩ = some (.int .i64 (numsOf m l)[j])) := by
    intro j h
    have := hsrc j (.int .i64 (numsOf m l)[j]) (by simp [icells, h])
    simpa [Addr.add_lit] using this
  have HB4 : Hid (Below w.heap.size w w4) := HB3.out.trans (hb4.mono HB3.out.size)
  have HE4 : Hid (ErrAt w4 (some (some m)) l (.iface te ue)) := ErrAt.below hb4 HE3.out
  have HN4 : Hid (NodeAt w4 nb m l [.int .i64 f0, .int .i64 f1, .int .i64 f2, .string f3, .slice s4 x4 y4]) := NodeAt.but (Nat.le_refl _) (But.below hb4) HN3.out
  have HX4 : Hid (w4.heap[w.heap.size]? = _) := (hb4.block _ (lt_of_heap HX3.out)).trans HX3.out
  have HY4 : Hid (w4.heap[z]? = _) := (hb4.block _ (lt_of_heap HY3.out)).trans HY3.out
  have HIN : Hid (isN m k l = (numsOf m l).any (fun x => x == k)) := isN_nums m k l
  have hnl2 : (numsOf m l).length ≤ 1001 := by omega
  clear hown hb4 hsrc hnl i0
  generalize numsOf m l = xs at *
  go_wp2
  go_loop [10, 12] (fun b i => ∃ j : Nat, j ≤ xs.length ∧ i = .int .i64 j ∧ b = .bool ((xs.take j).any (fun x => x == k))) (fun _ i => xs.length - (intOf i).toNat)
  case atStart => exact ⟨0, Nat.zero_le _, rfl, rfl⟩
  case round =>
    obtain ⟨j, hj, rfl, rfl⟩ := hrel
    by_cases hlt : j < xs.length
    · have hc := HQ4.out j hlt
      have HAT : Hid _ := any_take xs k j hlt
      cases hb : (xs.take j).any (fun x => x == k) with
      | true =>
        rw [hb] at HAT
        clear hb
        go_wp2
        go_round
        case rel => exact ⟨j + 1, by omega, by go_num, by rw [HAT.out]; rfl⟩
        case measure => simp [intOf]; omega
      | false =>
        rw [hb] at HAT
        clear hb
        go_wp2
        go_round
        case rel => exact ⟨j + 1, by omega, by go_num, by rw [HAT.out]; rfl⟩
        case measure => simp [intOf]; omega
    · have hx : xs.take j = xs := List.take_of_length_le (by omega)
      rw [hx, ← HIN.out]
      clear hx
      have HSW : Hid (∀ W : World, Below w4.heap.size w4 W → W.cell? ⟨w.heap.size, 1, none⟩ = some (.int .i64 aat) ∧ W.cell? ⟨z, 0, none⟩ = some (.int .i64 f0) ∧ W.cell? ⟨z, 1, none⟩ = some (.int .i64 f1) ∧ W.cell? ⟨z, 2, none⟩ = some (.int .i64 f2) ∧ W.cell? ⟨z, 3, none⟩ = some (.string f3) ∧ W.cell? ⟨z, 4, none⟩ = some (.slice s4 x4 y4)) := by
        intro W hW
        have hX := (hW.block _ (lt_of_heap HX4.out)).trans HX4.out
        have hY := (hW.block _ (lt_of_heap HY4.out)).trans HY4.out
        exact ⟨cell_of_heap hX 1 _ rfl, cell_of_heap hY 0 _ rfl, cell_of_heap hY 1 _ rfl, cell_of_heap hY 2 _ rfl, cell_of_heap hY 3 _ rfl, cell_of_heap hY 4 _ rfl⟩
      have i0 : w4.cell? ⟨w.heap.size, 0, none⟩ = some (.string aop) := cell_of_heap HX4.out 0 _ rfl
      have HLL : Hid (l.length ≤ l.length) := Nat.le_refl _
      obtain ⟨bn, hbn⟩ : ∃ bn, bn = isN m k l := ⟨_, rfl⟩
      obtain ⟨bk, hbk⟩ : ∃ bk, bk = isK (aop.extract 0 la) aat l := ⟨_, rfl⟩
      have HBN : Hid (isN m k l = bn) := hbn.symm
      have HBK : Hid (isK (aop.extract 0 la) aat l = bk) := hbk.symm
      rw [HBN.out]
      clear hbn hbk
      have hbb : (bn == bn) = true := by cases bn <;> rfl
      have hbb2 : (bk == bk) = true := by cases bk <;> rfl
      go_wp2
      refine wp_region_held_drew (S := fun W => W.cell? ⟨w.heap.size, 1, none⟩ = some (.int .i64 aat) ∧ W.cell? ⟨z, 0, none⟩ = some (.int .i64 f0) ∧ W.cell? ⟨z, 1, none⟩ = some (.int .i64 f1) ∧ W.cell? ⟨z, 2, none⟩ = some (.int .i64 f2) ∧ W.cell? ⟨z, 3, none⟩ = some (.string f3) ∧ W.cell? ⟨z, 4, none⟩ = some (.slice s4 x4 y4)) (by kernel_rfl) (by exact HSW.out _ (Below.refl _ _).drew) (fun hHeld => ?_)
      change wpAnyH _ _ _ _ _ 23 (Array.replicate 23 false) _ _
      refine wpAnyH_take (i := 0) (oi := _) (v := _) (by simp only [List.getElem?_toArray, List.getElem?_cons_zero]; rfl) (by kernel_rfl) (by kernel_rfl) (by kernel_rfl) (by exact fun _ _ _ h => h) (Or.inl ⟨by rfl, by intro w' hSw; (try dsimp only at hSw); first | (go_simp; done) | (go_simp; with_reducible rfl)⟩) hHeld ?_
      simp only [Act.put, List.setIfInBounds_toArray, List.set_cons_zero, List.set_cons_succ]
      refine wpAnyH_take (i := 1) (oi := _) (v := _) (by simp only [List.getElem?_toArray, List.getElem?_cons_succ, List.getElem?_cons_zero]; rfl) (by kernel_rfl) (by kernel_rfl) (by kernel_rfl) (by exact fun _ _ _ h => h) (Or.inl ⟨by rfl, by intro w' hSw; (try dsimp only at hSw); first | (go_simp; done) | (go_simp; with_reducible rfl)⟩) hHeld ?_
      simp only [Act.put, List.setIfInBounds_toArray, List.set_cons_zero, List.set_cons_succ]
      refine wpAnyH_take (i := 2) (oi := _) (v := _) (by simp only [List.getElem?_toArray, List.getElem?_cons_succ, List.getElem?_cons_zero]; rfl) (by kernel_rfl) (by kernel_rfl) (by kernel_rfl) (by exact fun _ _ _ h => h) (Or.inl ⟨by rfl, by intro w' hSw; (try dsimp only at hSw); first | (go_simp; done) | (go_simp; with_reducible rfl)⟩) hHeld ?_
      simp only [Act.put, List.setIfInBounds_toArray, List.set_cons_zero, List.set_cons_succ]
      refine wpAnyH_take (i := 4) (oi := _) (v := _) (by simp only [List.getElem?_toArray, List.getElem?_cons_succ, List.getElem?_cons_zero]; rfl) (by kernel_rfl) (by kernel_rfl) (by kernel_rfl) (by exact fun _ _ _ h => h) (Or.inl ⟨by rfl, by intro w' hSw; (try dsimp only at hSw); first | (go_simp; done) | (go_simp; with_reducible rfl)⟩) hHeld ?_
      simp only [Act.put, List.setIfInBounds_toArray, List.set_cons_zero, List.set_cons_succ]
      refine wpAnyH_ready (rs := [3]) (by kernel_rfl) (by simp) ?_
      refine AllReadyH.cons rfl (fun K hK => ?_) AllReadyH.nil
      go_simp
      go_wp2_with fail
      refine (Is_errno te ue k _ bn (fun w' => Below w4.heap.size w4 w') ((is_layers m k l.length l _ _ HLL.out (ErrAt.below (Below.refl _ _).drew HE4.out)).mono fun e w' h => ⟨by rw [← HBN.out]; exact h.1, (Below.refl _ _).drew.trans (h.2.mono (by simp))⟩)).mono ?_
      rintro r w5 ⟨rfl, hb5⟩
      have HB5 : Hid (Below w4.heap.size w4 w5) := hb5
      clear hb5
      go_wp2_with fail
      refine hK.out _ _ (HSW.out _ HB5.out) (fun hHeld => ?_)
      clear hK K
      refine wpAnyH_take (i := 5) (oi := _) (v := _) (by simp only [List.getElem?_toArray, List.getElem?_cons_succ, List.getElem?_cons_zero]; rfl) (by kernel_rfl) (by kernel_rfl) (by kernel_rfl) (by exact fun _ _ _ h => h) (Or.inl ⟨by rfl, by intro w' hSw; (try dsimp only at hSw); first | (go_simp; done) | (go_simp; with_reducible rfl)⟩) hHeld ?_
      simp only [Act.put, List.setIfInBounds_toArray, List.set_cons_zero, List.set_cons_succ]
      refine wpAnyH_take (i := 6) (oi := _) (v := _) (by simp only [List.getElem?_toArray, List.getElem?_cons_succ, List.getElem?_cons_zero]; rfl) (by kernel_rfl) (by kernel_rfl) (by kernel_rfl) (by exact fun _ _ _ h => h) (Or.inl ⟨by rfl, by intro w' hSw; (try dsimp only at hSw); first | (go_simp; done) | (go_simp; with_reducible rfl)⟩) hHeld ?_
      simp only [Act.put, List.setIfInBounds_toArray, List.set_cons_zero, List.set_cons_succ]
      refine wpAnyH_take (i := 7) (oi := _) (v := _) (by simp only [List.getElem?_toArray, List.getElem?_cons_succ, List.getElem?_cons_zero]; rfl) (by kernel_rfl) (by kernel_rfl) (by kernel_rfl) (by exact fun _ _ _ h => h) (Or.inl ⟨by rfl, by intro w' hSw; (try dsimp only at hSw); first | (go_simp; done) | (go_simp; with_reducible rfl)⟩) hHeld ?_
      simp only [Act.put, List.setIfInBounds_toArray, List.set_cons_zero, List.set_cons_succ]
      refine wpAnyH_take (i := 8) (oi := _) (v := _) (by simp only [List.getElem?_toArray, List.getElem?_cons_succ, List.getElem?_cons_zero]; rfl) (by kernel_rfl) (by kernel_rfl) (by kernel_rfl) (by exact fun _ _ _ h => h) (Or.inl ⟨by rfl, by intro w' hSw; (try dsimp only at hSw); first | (go_simp; done) | (go_simp; with_reducible rfl)⟩) hHeld ?_
      simp only [Act.put, List.setIfInBounds_toArray, List.set_cons_zero, List.set_cons_succ]
      refine wpAnyH_take (i := 9) (oi := _) (v := _) (by simp only [List.getElem?_toArray, List.getElem?_cons_succ, List.getElem?_cons_zero]; rfl) (by kernel_rfl) (by kernel_rfl) (by kernel_rfl) (by exact fun _ _ _ h => h) (Or.inl ⟨by rfl, by intro w' hSw; (try dsimp only at hSw); first | (go_simp; done) | (go_simp; with_reducible rfl)⟩) hHeld ?_
      simp only [Act.put, List.setIfInBounds_toArray, List.set_cons_zero, List.set_cons_succ]
      refine wpAnyH_take (i := 10) (oi := _) (v := _) (by simp only [List.getElem?_toArray, List.getElem?_cons_succ, List.getElem?_cons_zero]; rfl) (by kernel_rfl) (by kernel_rfl) (by kernel_rfl) (by exact fun _ _ _ h => h) (Or.inl ⟨by rfl, by intro w' hSw; (try dsimp only at hSw); first | (go_simp; done) | (go_simp; with_reducible rfl)⟩) hHeld ?_
      simp only [Act.put, List.setIfInBounds_toArray, List.set_cons_zero, List.set_cons_succ]
      refine wpAnyH_take (i := 11) (oi := _) (v := _) (by simp only [List.getElem?_toArray, List.getElem?_cons_succ, List.getElem?_cons_zero]; rfl) (by kernel_rfl) (by kernel_rfl) (by kernel_rfl) (by exact fun _ _ _ h => h) (Or.inl ⟨by rfl, by intro w' hSw; (try dsimp only at hSw); first | (go_simp; done) | (go_simp; with_reducible rfl)⟩) hHeld ?_
      simp only [Act.put, List.setIfInBounds_toArray, List.set_cons_zero, List.set_cons_succ]
      refine wpAnyH_take (i := 15) (oi := _) (v := _) (by simp only [List.getElem?_toArray, List.getElem?_cons_succ, List.getElem?_cons_zero]; rfl) (by kernel_rfl) (by kernel_rfl) (by kernel_rfl) (by exact fun _ _ _ h => h) (Or.inl ⟨by rfl, by intro w' hSw; (try dsimp only at hSw); first | (go_simp; done) | (go_simp; with_reducible rfl)⟩) hHeld ?_
      simp only [Act.put, List.setIfInBounds_toArray, List.set_cons_zero, List.set_cons_succ]
      refine wpAnyH_take (i := 16) (oi := _) (v := _) (by simp only [List.getElem?_toArray, List.getElem?_cons_succ, List.getElem?_cons_zero]; rfl) (by kernel_rfl) (by kernel_rfl) (by kernel_rfl) (by exact fun _ _ _ h => h) (Or.inl ⟨by rfl, by intro w' hSw; (try dsimp only at hSw); first | (go_simp; done) | (go_simp; with_reducible rfl)⟩) hHeld ?_
      simp only [Act.put, List.setIfInBounds_toArray, List.set_cons_zero, List.set_cons_succ]
      refine wpAnyH_take (i := 17) (oi := _) (v := _) (by simp only [List.getElem?_toArray, List.getElem?_cons_succ, List.getElem?_cons_zero]; rfl) (by kernel_rfl) (by kernel_rfl) (by kernel_rfl) (by exact fun _ _ _ h => h) (Or.inl ⟨by rfl, by intro w' hSw; (try dsimp only at hSw); first | (go_simp; done) | (go_simp; with_reducible rfl)⟩) hHeld ?_
      simp only [Act.put, List.setIfInBounds_toArray, List.set_cons_zero, List.set_cons_succ]
      refine wpAnyH_take (i := 18) (oi := _) (v := _) (by simp only [List.getElem?_toArray, List.getElem?_cons_succ, List.getElem?_cons_zero]; rfl) (by kernel_rfl) (by kernel_rfl) (by kernel_rfl) (by exact fun _ _ _ h => h) (Or.inl ⟨by rfl, by intro w' hSw; (try dsimp only at hSw); first | (go_simp; done) | (go_simp; with_reducible rfl)⟩) hHeld ?_
      simp only [Act.put, List.setIfInBounds_toArray, List.set_cons_zero, List.set_cons_succ]
      refine wpAnyH_ready (rs := [12]) (by kernel_rfl) (by simp) ?_
      refine AllReadyH.cons rfl (fun K hK => ?_) AllReadyH.nil
      go_simp
      go_wp2_with fail
      refine hK.out _ _ (HSW.out _ (HB5.out.alloc HB5.out.size _)) (fun hHeld => ?_)
      clear hK K
      refine wpAnyH_take (i := 13) (oi := _) (v := _) (by simp only [List.getElem?_toArray, List.getElem?_cons_succ, List.getElem?_cons_zero]; rfl) (by kernel_rfl) (by kernel_rfl) (by kernel_rfl) (by exact fun _ _ _ h => h) (Or.inl ⟨by rfl, by intro w' hSw; (try dsimp only at hSw); first | (go_simp; done) | (go_simp; with_reducible rfl)⟩) hHeld ?_
      simp only [Act.put, List.setIfInBounds_toArray, List.set_cons_zero, List.set_cons_succ]
      refine wpAnyH_ready (rs := [14]) (by kernel_rfl) (by simp) ?_
      refine AllReadyH.cons rfl (fun K hK => ?_) AllReadyH.nil
      go_simp
      have HB6 : Hid (Below w4.heap.size w4 (w5.alloc (.cells #[.string (aop.extract 0 la), .int .i64 aat, .nilIface] 46))) := HB5.out.alloc HB5.out.size _
      go_wp2_with fail
      refine (Is_fault te ue _ _ bk (fun w' => Below w4.heap.size w4 w') ((isK_layers m w5.heap.size (aop.extract 0 la) aat l.length l _ _ HLL.out (ErrAt.below HB6.out HE4.out) (heap_alloc_new _ _)).mono fun e w' h => ⟨by rw [← HBK.out]; exact h.1, HB6.out.trans (h.2.mono (by have := HB6.out.size; omega))⟩)).mono ?_
      rintro r w7 ⟨rfl, hb7⟩
      have HB7 : Hid (Below w4.heap.size w4 w7) := hb7
      clear hb7
      go_wp2_with fail
      refine hK.out _ _ (HSW.out _ HB7.out) (fun hHeld => ?_)
      clear hK K
      refine wpAnyH_ready (rs := [19]) (by kernel_rfl) (by simp) ?_
      refine AllReadyH.cons rfl (fun K hK => ?_) AllReadyH.nil
      go_simp
      go_wp2_with fail
      refine (has_any m nb (aop.extract 0 la) aat l _ _ _ _ _ w7 (NodeAt.but (Nat.le_refl _) (But.below HB7.out) HN4.out)).mono ?_
      rintro r w8 ⟨rfl, hb8⟩
      have HB8 : Hid (Below w4.heap.size w4 w8) := HB7.out.trans (hb8.mono HB7.out.size)
      clear hb8
      rw [HBK.out]
      go_wp2_with fail
      refine hK.out _ _ (HSW.out _ HB8.out) (fun hHeld => ?_)
      clear hK K
      refine wpAnyH_take (i := 20) (oi := _) (v := _) (by simp only [List.getElem?_toArray, List.getElem?_cons_succ, List.getElem?_cons_zero]; rfl) (by kernel_rfl) (by kernel_rfl) (by kernel_rfl) (by exact fun _ _ _ h => h) (Or.inl ⟨by rfl, by intro w' hSw; (try dsimp only at hSw); first | (go_simp; done) | (go_simp; with_reducible rfl)⟩) hHeld ?_
      simp only [Act.put, List.setIfInBounds_toArray, List.set_cons_zero, List.set_cons_succ]
      refine wpAnyH_take (i := 21) (oi := _) (v := _) (by simp only [List.getElem?_toArray, List.getElem?_cons_succ, List.getElem?_cons_zero]; rfl) (by kernel_rfl) (by kernel_rfl) (by kernel_rfl) (by exact fun _ _ _ h => h) (Or.inl ⟨by rfl, by intro w' hSw; (try dsimp only at hSw); first | (go_simp; done) | (go_simp; with_reducible rfl)⟩) hHeld ?_
      simp only [Act.put, List.setIfInBounds_toArray, List.set_cons_zero, List.set_cons_succ]
      refine wpAnyH_take (i := 22) (oi := _) (v := _) (by simp only [List.getElem?_toArray, List.getElem?_cons_succ, List.getElem?_cons_zero]; rfl) (by kernel_rfl) (by kernel_rfl) (by kernel_rfl) (by exact fun _ _ _ h => h) (Or.inl ⟨by rfl, by intro w' hSw; (try dsimp only at hSw); first | (go_simp; done) | (go_simp; with_reducible rfl)⟩) hHeld ?_
      simp only [Act.put, List.setIfInBounds_toArray, List.set_cons_zero, List.set_cons_succ]
      refine wpAnyH_done (by kernel_rfl) ?_ _
      go_wp2
      go_ret
      exact ⟨rfl, HB4.out.trans (HB8.out.mono HB4.out.size)⟩

theorem open_step {H : Type} {enc : TypeId × Value → H} {W : World} {sp : Nat → Bool} {held : Bool} {b0 : Nat} {v : Value} {d : DataW H} {p : List MemPlace} (hv : Value.okWide Tryd.prog W .any b0 42 v)
    (h : DataW.Trod enc Tryd.prog W 0 sp held 42 v d p) : ∃ (s : ByteArray) (x y : Int) (b : Bool), v = .agg #[.string s, .int .i64 x, .int .i64 y, .bool b] := by
  obtain ⟨v0, v1, v2, v3, y0, y1, y2, y3, n, rfl, _, _, e0, e1, e2, e3⟩ := Go.Joins.open_agg4 Tryd.underlying42 (by kernel_rfl) (by kernel_rfl) hv h
  obtain ⟨s, g0, _⟩ := DataW.trod_string Tryd.underlying9 e0
  obtain ⟨a1, g1, _⟩ := DataW.trod_int Tryd.underlying3 e1
  obtain ⟨a2, g2, _⟩ := DataW.trod_int Tryd.underlying3 e2
  obtain ⟨a3, g3, _⟩ := DataW.trod_bool Tryd.underlying4 e3
  simp only [List.cons.injEq, and_true] at g0 g1 g2 g3
  exact ⟨s, a1, a2, a3, by rw [g0, g1, g2, g3]⟩

theorem faultIs_calls {H : Type} {enc : TypeId × Value → H} {sp : Nat → Bool} {held : Bool} {d : DataW H} {p : List MemPlace} (n : Int) (a : Option Addr) (len cap : Nat) (aop : ByteArray) (aat an : Int) (aj : Bool) (w : World) (_ : (Lit.int .i64 n).wf = true)
    (h : DataW.Trod enc Tryd.prog w 0 sp held 22 (.slice a len cap) d p) (hL : Laid w) :
    Calls Tryd.prog 4 #[.int .i64 n, .slice a len cap, .agg #[.string aop, .int .i64 aat, .int .i64 an, .bool aj]] w fun e w' => e = .returned (.bool true) ∧ Below w.heap.size w w' := by
  obtain ⟨L, hI, hl⟩ := St.items_of_trod h
  exact faultIs_walk n a len cap L aop aat an aj w hl hI hL

end Go.Proofs.YtiaigboichmepaaDoor.Fa
