/-
  The statement on an error's text, its number and its operations, as a walk. Condition: the words, the powers of ten and errors.errorType lie as their initialisers lay them.
-/
import Derived.Test.YtocfhejjmefmcaaDoorFaOpsA
import Derived.Test.YtocfhejjmefmcaaDoorFaRefT
import Derived.Test.YtocfhejjmefmcaaDoorFaNums
import Derived.Test.YtocfhejjmefmcaaDoorFaMade
import Derived.Test.YtocfhejjmefmcaaDoorFaSpeak
import Derived.Deep.RegionHeld3
namespace Go.Proofs.YtocfhejjmefmcaaDoor.Fa
open Go.ChangeShapes Go.WideShapes Go.ChangeAt Go.RowKit Go.Proofs.Fa
open Go.Proofs.YtocfhejjmefmcaaDoor.St (ItemsAt)
open Go.Proofs.YtocfhejjmefmcaaDoor.As (ErrT)

theorem layers_k (L : Nat → St.Item) (k : Nat) : ∀ y ∈ layers L k, 1 ≤ y.k ∧ y.k ≤ 19 := by
  induction k with
  | zero => intro y hy; cases hy
  | succ k ih =>
    intro y hy
    rcases List.mem_cons.1 hy with rfl | hy
    · rw [layerOf_k]; omega
    · exact ih y hy
theorem numOf_flat (m : Int) (l : List Layer) (a : ByteArray) : numOf (flat l a (some (some m))) = some m := by
  induction l generalizing a with
  | nil => rfl
  | cons y r ih =>
    have h : numOf (flat (y :: r) a (some (some m))) = numOf (flat r ⟨#[]⟩ (some (some m)) ++ if y.join = true then [(sep, some (some y.k), [])] else []) := rfl
    rw [h]
    exact numOf_prefix ⟨_, rfl⟩ (ih ⟨#[]⟩)
theorem nums_head (m : Int) (l : List Layer) (h : 0 < (numsOf m l).length) : (numsOf m l)[0] = m := by
  have h0 : (numsOf m l)[0]? = some m := by
    induction l with
    | nil => rfl
    | cons y r ih =>
      have hr := (numsOf_len m r).1
      unfold numsOf
      split
      · rw [List.getElem?_append_left (by omega)]; exact ih (by omega)
      · exact ih (by omega)
  rw [List.getElem?_eq_getElem h] at h0
  exact Option.some.inj h0
/-- A row's cells, where it isn't nothing. -/
theorem opsAt_src {w : World} {B : Nat} {v : Value} {xs : List ByteArray} (h : w.ownsRow B 9 1 v xs.length (scells xs)) : ∃ a cap, v = .slice a xs.length cap ∧ ∀ j (hj : j < xs.length), ∃ q, a = some ⟨q, 0, none⟩ ∧ w.cell? ⟨q, j, none⟩ = some (.string xs[j]) := by
  rcases h.2 with ⟨rfl, h0⟩ | ⟨g, cap, cur, rfl, _⟩
  · exact ⟨none, 0, by rw [h0], fun j hj => by omega⟩
  · refine ⟨_, _, rfl, fun j hj => ⟨g, rfl, ?_⟩⟩
    have := h.cells (g := g) rfl j (.string xs[j]) (by simp [scells, hj])
    simpa [Addr.add_lit] using this

set_option maxRecDepth 100000
set_option maxHeartbeats 8000000
theorem faultTexts_walk (n : Int) (a : Option Addr) (len cap : Nat) (L : Nat → St.Item) (w : World) (hlen : len ≤ maxLen) (hI : ItemsAt w a len L) (hL : Laid w) :
    Calls Tryd.prog 3 #[.int .i64 n, .slice a len cap] w fun e w' => e = .returned (.bool true) ∧ Below w.heap.size w w' := by
  have HLen : Hid (len ≤ maxLen) := hlen
  clear hlen
  have HI : Hid (ItemsAt w a len L) := hI
  have HL : Hid (Laid w) := hL
  clear hI hL
  have hll : (layers L (min len 10)).length ≤ 1000 := by rw [layers_len]; omega
  have HLK : Hid (∀ y ∈ layers L (min len 10), 1 ≤ y.k ∧ y.k ≤ 19) := layers_k L _
  have hm1 : 1 ≤ 1 + n % 19 := by omega
  have hm2 : 1 + n % 19 ≤ 19 := by omega
  go_enter Tryd.func3, Tryd.ntmps3
  go_wp2_with fail
  refine (speaks_any _ HL.out).mono ?_
  rintro e w1 ⟨rfl, hb1⟩
  have HB1 : Hid (Below w.heap.size w w1) := hb1
  clear hb1
  go_wp2_with fail
  refine (made_any n a len cap L w1 HLen.out (HI.out.below HB1.out (Nat.le_refl _))).mono ?_
  rintro e w2 ⟨⟨v, c0, c1, c2, c3, c4, nb, rfl, hE, hN⟩, hb2⟩
  obtain ⟨f0, f1, f2, f3, s4, x4, y4, hcs⟩ := hN.five
  simp only [List.cons.injEq, and_true] at hcs
  obtain ⟨rfl, rfl, rfl, rfl, rfl⟩ := hcs
  obtain ⟨te, ue, rfl⟩ := hE.iface
  have HB2 : Hid (Below w.heap.size w w2) := HB1.out.trans (hb2.mono HB1.out.size)
  have HE2 : Hid (ErrAt w2 (some (some (1 + n % 19))) (layers L (min len 10)) (.iface te ue)) := hE
  have HN2 : Hid (NodeAt w2 nb (1 + n % 19) (layers L (min len 10)) [.int .i64 f0, .int .i64 f1, .int .i64 f2, .string f3, .slice s4 x4 y4]) := hN
  clear hb2 hE hN
  generalize 1 + n % 19 = m at *
  generalize layers L (min len 10) = l at *
  obtain ⟨w3, hw3⟩ : ∃ w3, w3 = w2.alloc (Obj.cells #[.int .i64 f0, .int .i64 f1, .int .i64 f2, .string f3, .slice s4 x4 y4] 28) := ⟨_, rfl⟩
  have hb3 : Below w2.heap.size w2 w3 := by rw [hw3]; exact (Below.refl _ _).alloc (Nat.le_refl _) _
  have HB3 : Hid (Below w.heap.size w w3) := HB2.out.trans (hb3.mono HB2.out.size)
  have HE3 : Hid (ErrAt w3 (some (some m)) l (.iface te ue)) := ErrAt.below hb3 HE2.out
  have HN3 : Hid (NodeAt w3 nb m l [.int .i64 f0, .int .i64 f1, .int .i64 f2, .string f3, .slice s4 x4 y4]) := NodeAt.but (Nat.le_refl _) (But.below hb3) HN2.out
  have HL3 : Hid (Laid w3) := HL.out.below HB3.out
  have HY3 : Hid (w3.heap[w2.heap.size]? = some (.cells #[.int .i64 f0, .int .i64 f1, .int .i64 f2, .string f3, .slice s4 x4 y4] 28 (0, 0))) := by
    show w3.heap[w2.heap.size]? = _
    rw [hw3]; exact heap_alloc_new _ _
  clear hb3 HE2 HN2
  go_wp2_with fail
  rw [← hw3]
  clear hw3
  generalize w2.heap.size = z at *
  have HSW : Hid (∀ W : World, Below w3.heap.size w3 W → W.cell? ⟨z, 0, none⟩ = some (.int .i64 f0) ∧ W.cell? ⟨z, 1, none⟩ = some (.int .i64 f1) ∧ W.cell? ⟨z, 2, none⟩ = some (.int .i64 f2) ∧ W.cell? ⟨z, 3, none⟩ = some (.string f3) ∧ W.cell? ⟨z, 4, none⟩ = some (.slice s4 x4 y4)) := by
    intro W hW
    have hY := (hW.block _ (lt_of_heap HY3.out)).trans HY3.out
    exact ⟨cell_of_heap hY 0 _ rfl, cell_of_heap hY 1 _ rfl, cell_of_heap hY 2 _ rfl, cell_of_heap hY 3 _ rfl, cell_of_heap hY 4 _ rfl⟩
  have HEW : Hid (∀ W : World, Below w3.heap.size w3 W → ErrAt W (some (some m)) l (.iface te ue)) := fun W hW => ErrAt.below hW HE3.out
  have HNW : Hid (∀ W : World, Below w3.heap.size w3 W → NodeAt W nb m l [.int .i64 f0, .int .i64 f1, .int .i64 f2, .string f3, .slice s4 x4 y4]) := fun W hW => NodeAt.but (Nat.le_refl _) (But.below hW) HN3.out
  have HLW : Hid (∀ W : World, Below w3.heap.size w3 W → Laid W) := fun W hW => HL3.out.below hW
  have hol := opsOf_len l
  refine wp_region_held_drew (S := fun W => W.cell? ⟨z, 0, none⟩ = some (.int .i64 f0) ∧ W.cell? ⟨z, 1, none⟩ = some (.int .i64 f1) ∧ W.cell? ⟨z, 2, none⟩ = some (.int .i64 f2) ∧ W.cell? ⟨z, 3, none⟩ = some (.string f3) ∧ W.cell? ⟨z, 4, none⟩ = some (.slice s4 x4 y4)) (by kernel_rfl) (by exact HSW.out _ (Below.refl _ _).drew) (fun hHeld => ?_)
  change wpAnyH _ _ _ _ _ 6 (Array.replicate 6 false) _ _
  refine wpAnyH_take (i := 0) (oi := _) (v := _) (by simp only [List.getElem?_toArray, List.getElem?_cons_zero]; rfl) (by kernel_rfl) (by kernel_rfl) (by kernel_rfl) (by exact fun _ _ _ h => h) (Or.inl ⟨by rfl, by intro w' hSw; (try dsimp only at hSw); first | (go_simp; done) | (go_simp; with_reducible rfl)⟩) hHeld ?_
  simp only [Act.put, List.setIfInBounds_toArray, List.set_cons_zero, List.set_cons_succ]
  refine wpAnyH_take (i := 2) (oi := _) (v := _) (by simp only [List.getElem?_toArray, List.getElem?_cons_succ, List.getElem?_cons_zero]; rfl) (by kernel_rfl) (by kernel_rfl) (by kernel_rfl) (by exact fun _ _ _ h => h) (Or.inl ⟨by rfl, by intro w' hSw; (try dsimp only at hSw); first | (go_simp; done) | (go_simp; with_reducible rfl)⟩) hHeld ?_
  simp only [Act.put, List.setIfInBounds_toArray, List.set_cons_zero, List.set_cons_succ]
  refine wpAnyH_ready (rs := [1]) (by kernel_rfl) (by simp) ?_
  refine AllReadyH.cons rfl (fun K hK => ?_) AllReadyH.nil
  go_simp
  go_wp2_with fail
  refine (Ops_any (some (some m)) (by simp) l te ue _ hll (HEW.out _ (Below.refl _ _).drew)).mono ?_
  rintro r w4 ⟨v1, rfl, ho1, hb4⟩
  have HB4 : Hid (Below w3.heap.size w3 w4) := (Below.refl _ _).drew.trans hb4
  have HO1 : Hid (w4.ownsRow w3.heap.size 9 1 v1 (opsOf l).length (scells (opsOf l))) := ho1
  clear hb4 ho1
  go_wp2_with fail
  refine hK.out _ _ (HSW.out _ HB4.out) (fun hHeld => ?_)
  clear hK K
  refine wpAnyH_ready (rs := [3]) (by kernel_rfl) (by simp) ?_
  refine AllReadyH.cons rfl (fun K hK => ?_) AllReadyH.nil
  go_simp
  go_wp2_with fail
  refine (refops_any m nb l _ _ _ _ _ w4 hll (HNW.out _ HB4.out)).mono ?_
  rintro r w5 ⟨v2, rfl, ho2, hb5⟩
  have HB5 : Hid (Below w3.heap.size w3 w5) := HB4.out.trans (hb5.mono HB4.out.size)
  have HB45 : Hid (Below w4.heap.size w4 w5) := hb5
  have HO2 : Hid (w5.ownsRow w4.heap.size 9 1 v2 (opsOf l).length (scells (opsOf l))) := ho2
  clear hb5 ho2
  go_wp2_with fail
  refine hK.out _ _ (HSW.out _ HB5.out) (fun hHeld => ?_)
  clear hK K
  refine wpAnyH_take (i := 4) (oi := _) (v := _) (by simp only [List.getElem?_toArray, List.getElem?_cons_succ, List.getElem?_cons_zero]; rfl) (by kernel_rfl) (by kernel_rfl) (by kernel_rfl) (by exact fun _ _ _ h => h) (Or.inl ⟨by rfl, by intro w' hSw; (try dsimp only at hSw); first | (go_simp; done) | (go_simp; with_reducible rfl)⟩) hHeld ?_
  simp only [Act.put, List.setIfInBounds_toArray, List.set_cons_zero, List.set_cons_succ]
  refine wpAnyH_take (i := 5) (oi := _) (v := _) (by simp only [List.getElem?_toArray, List.getElem?_cons_succ, List.getElem?_cons_zero]; rfl) (by kernel_rfl) (by kernel_rfl) (by kernel_rfl) (by exact fun _ _ _ h => h) (Or.inl ⟨by rfl, by intro w' hSw; (try dsimp only at hSw); first | (go_simp; done) | (go_simp; with_reducible rfl)⟩) hHeld ?_
  simp only [Act.put, List.setIfInBounds_toArray, List.set_cons_zero, List.set_cons_succ]
  refine wpAnyH_done (by kernel_rfl) ?_ _
  clear hHeld
  obtain ⟨p1, cp1, hv1, hs1⟩ := opsAt_src HO1.out
  obtain ⟨p2, cp2, hv2, hs2⟩ := opsAt_src HO2.out
  have HS1 : Hid (∀ W : World, Below w5.heap.size w5 W → ∀ j (hj : j < (opsOf l).length), ∃ q, p1 = some ⟨q, 0, none⟩ ∧ W.cell? ⟨q, j, none⟩ = some (.string (opsOf l)[j])) := by
    intro W hW j hj
    obtain ⟨q, e1, e2⟩ := hs1 j hj
    have h3 := (HB45.out.cell (p := ⟨q, j, none⟩) (lt_of_cell e2)).trans e2
    exact ⟨q, e1, (hW.cell (p := ⟨q, j, none⟩) (lt_of_cell h3)).trans h3⟩
  have HS2 : Hid (∀ W : World, Below w5.heap.size w5 W → ∀ j (hj : j < (opsOf l).length), ∃ q, p2 = some ⟨q, 0, none⟩ ∧ W.cell? ⟨q, j, none⟩ = some (.string (opsOf l)[j])) := by
    intro W hW j hj
    obtain ⟨q, e1, e2⟩ := hs2 j hj
    exact ⟨q, e1, (hW.cell (p := ⟨q, j, none⟩) (lt_of_cell e2)).trans e2⟩
  subst hv1 hv2
  clear hs1 hs2
  have hol2 : (opsOf l).length ≤ 1000 := by omega
  have HNH : Hid (numberV (flat l ⟨#[]⟩ (some (some m))) = m) := by show (numOf _).getD 17 = m; rw [numOf_flat]; rfl
  have HSV : Hid (∀ W : World, Below w5.heap.size w5 W → Below w3.heap.size w3 W) := fun W hW => HB5.out.trans (hW.mono HB5.out.size)
  obtain ⟨nn, hnn⟩ : ∃ nn, nn = numsOf m l := ⟨_, rfl⟩
  have hnl := numsOf_len m l
  rw [← hnn] at hnl
  have HNH2 : Hid (∀ h : 0 < nn.length, nn[0] = m) := by subst hnn; exact fun h => nums_head m l h
  have HNN : Hid (nn = numsOf m l) := hnn
  have hnp : 0 < nn.length := hnl.1
  have hnq : nn.length ≤ 2000 := by omega
  clear hnn hnl
  go_wp2_with fail
  refine wp_region_held_drew (S := fun W => W.cell? ⟨z, 0, none⟩ = some (.int .i64 f0) ∧ W.cell? ⟨z, 1, none⟩ = some (.int .i64 f1) ∧ W.cell? ⟨z, 2, none⟩ = some (.int .i64 f2) ∧ W.cell? ⟨z, 3, none⟩ = some (.string f3) ∧ W.cell? ⟨z, 4, none⟩ = some (.slice s4 x4 y4)) (by kernel_rfl) (by exact HSW.out _ (HSV.out _ (Below.refl _ _).drew)) (fun hHeld => ?_)
  change wpAnyH _ _ _ _ _ 25 (Array.replicate 25 false) _ _
  refine wpAnyH_take (i := 0) (oi := _) (v := _) (by simp only [List.getElem?_toArray, List.getElem?_cons_zero]; rfl) (by kernel_rfl) (by kernel_rfl) (by kernel_rfl) (by exact fun _ _ _ h => h) (Or.inl ⟨by rfl, by intro w' hSw; (try dsimp only at hSw); first | (go_simp; done) | (go_simp; with_reducible rfl)⟩) hHeld ?_
  simp only [Act.put, List.setIfInBounds_toArray, List.set_cons_zero, List.set_cons_succ]
  refine wpAnyH_take (i := 1) (oi := _) (v := _) (by simp only [List.getElem?_toArray, List.getElem?_cons_succ, List.getElem?_cons_zero]; rfl) (by kernel_rfl) (by kernel_rfl) (by kernel_rfl) (by exact fun _ _ _ h => h) (Or.inl ⟨by rfl, by intro w' hSw; (try dsimp only at hSw); first | (go_simp; done) | (go_simp; with_reducible rfl)⟩) hHeld ?_
  simp only [Act.put, List.setIfInBounds_toArray, List.set_cons_zero, List.set_cons_succ]
  refine wpAnyH_take (i := 2) (oi := _) (v := _) (by simp only [List.getElem?_toArray, List.getElem?_cons_succ, List.getElem?_cons_zero]; rfl) (by kernel_rfl) (by kernel_rfl) (by kernel_rfl) (by exact fun _ _ _ h => h) (Or.inl ⟨by rfl, by intro w' hSw; (try dsimp only at hSw); first | (go_simp; done) | (go_simp; with_reducible rfl)⟩) hHeld ?_
  simp only [Act.put, List.setIfInBounds_toArray, List.set_cons_zero, List.set_cons_succ]
  refine wpAnyH_take (i := 3) (oi := _) (v := _) (by simp only [List.getElem?_toArray, List.getElem?_cons_succ, List.getElem?_cons_zero]; rfl) (by kernel_rfl) (by kernel_rfl) (by kernel_rfl) (by exact fun _ _ _ h => h) (Or.inl ⟨by rfl, by intro w' hSw; (try dsimp only at hSw); first | (go_simp; done) | (go_simp; with_reducible rfl)⟩) hHeld ?_
  simp only [Act.put, List.setIfInBounds_toArray, List.set_cons_zero, List.set_cons_succ]
  refine wpAnyH_take (i := 5) (oi := _) (v := _) (by simp only [List.getElem?_toArray, List.getElem?_cons_succ, List.getElem?_cons_zero]; rfl) (by kernel_rfl) (by kernel_rfl) (by kernel_rfl) (by exact fun _ _ _ h => h) (Or.inl ⟨by rfl, by intro w' hSw; (try dsimp only at hSw); first | (go_simp; done) | (go_simp; with_reducible rfl)⟩) hHeld ?_
  simp only [Act.put, List.setIfInBounds_toArray, List.set_cons_zero, List.set_cons_succ]
  refine wpAnyH_ready (rs := [4]) (by kernel_rfl) (by simp) ?_
  refine AllReadyH.cons rfl (fun K hK => ?_) AllReadyH.nil
  go_simp
  go_wp2_with fail
  refine (Text_any (some (some m)) l te ue _ hll (HEW.out _ (HSV.out _ (Below.refl _ _).drew)) (HLW.out _ (HSV.out _ (Below.refl _ _).drew)).1 (HLW.out _ (HSV.out _ (Below.refl _ _).drew)).2.1).mono ?_
  rintro r w6 ⟨rfl, hb6⟩
  have HB6 : Hid (Below w5.heap.size w5 w6) := (Below.refl _ _).drew.trans hb6
  clear hb6
  go_wp2_with fail
  refine hK.out _ _ (HSW.out _ (HSV.out _ HB6.out)) (fun hHeld => ?_)
  clear hK K
  refine wpAnyH_ready (rs := [6]) (by kernel_rfl) (by simp) ?_
  refine AllReadyH.cons rfl (fun K hK => ?_) AllReadyH.nil
  go_simp
  go_wp2_with fail
  refine (reftext_any m nb hm1 hm2 l _ _ _ _ _ w6 hll HLK.out (HNW.out _ (HSV.out _ HB6.out))).mono ?_
  rintro r w7 ⟨rfl, hb7⟩
  have HB7 : Hid (Below w5.heap.size w5 w7) := HB6.out.trans (hb7.mono HB6.out.size)
  clear hb7
  generalize textB (some (some m)) l = tx at *
  go_wp2_with fail
  refine hK.out _ _ (HSW.out _ (HSV.out _ HB7.out)) (fun hHeld => ?_)
  clear hK K
  refine wpAnyH_take (i := 7) (oi := _) (v := _) (by simp only [List.getElem?_toArray, List.getElem?_cons_succ, List.getElem?_cons_zero]; rfl) (by kernel_rfl) (by kernel_rfl) (by kernel_rfl) (by exact fun _ _ _ h => h) (Or.inl ⟨by rfl, by intro w' hSw; (try dsimp only at hSw); first | (go_simp; done) | (go_simp; with_reducible rfl)⟩) hHeld ?_
  simp only [Act.put, List.setIfInBounds_toArray, List.set_cons_zero, List.set_cons_succ]
  refine wpAnyH_take (i := 8) (oi := _) (v := _) (by simp only [List.getElem?_toArray, List.getElem?_cons_succ, List.getElem?_cons_zero]; rfl) (by kernel_rfl) (by kernel_rfl) (by kernel_rfl) (by exact fun _ _ _ h => h) (Or.inl ⟨by rfl, by intro w' hSw; (try dsimp only at hSw); first | (go_simp; done) | (go_simp; with_reducible rfl)⟩) hHeld ?_
  simp only [Act.put, List.setIfInBounds_toArray, List.set_cons_zero, List.set_cons_succ]
  refine wpAnyH_take (i := 9) (oi := _) (v := _) (by simp only [List.getElem?_toArray, List.getElem?_cons_succ, List.getElem?_cons_zero]; rfl) (by kernel_rfl) (by kernel_rfl) (by kernel_rfl) (by exact fun _ _ _ h => h) (Or.inl ⟨by rfl, by intro w' hSw; (try dsimp only at hSw); first | (go_simp; done) | (go_simp; with_reducible rfl)⟩) hHeld ?_
  simp only [Act.put, List.setIfInBounds_toArray, List.set_cons_zero, List.set_cons_succ]
  refine wpAnyH_take (i := 10) (oi := _) (v := _) (by simp only [List.getElem?_toArray, List.getElem?_cons_succ, List.getElem?_cons_zero]; rfl) (by kernel_rfl) (by kernel_rfl) (by kernel_rfl) (by exact fun _ _ _ h => h) (Or.inl ⟨by rfl, by intro w' hSw; (try dsimp only at hSw); first | (go_simp; done) | (go_simp; with_reducible rfl)⟩) hHeld ?_
  simp only [Act.put, List.setIfInBounds_toArray, List.set_cons_zero, List.set_cons_succ]
  refine wpAnyH_take (i := 12) (oi := _) (v := _) (by simp only [List.getElem?_toArray, List.getElem?_cons_succ, List.getElem?_cons_zero]; rfl) (by kernel_rfl) (by kernel_rfl) (by kernel_rfl) (by exact fun _ _ _ h => h) (Or.inl ⟨by rfl, by intro w' hSw; (try dsimp only at hSw); first | (go_simp; done) | (go_simp; with_reducible rfl)⟩) hHeld ?_
  simp only [Act.put, List.setIfInBounds_toArray, List.set_cons_zero, List.set_cons_succ]
  refine wpAnyH_ready (rs := [11]) (by kernel_rfl) (by simp) ?_
  refine AllReadyH.cons rfl (fun K hK => ?_) AllReadyH.nil
  go_simp
  go_wp2_with fail
  refine (Number_any (some (some m)) (by simp) l te ue w7 hll (HEW.out _ (HSV.out _ HB7.out)) (HLW.out _ (HSV.out _ HB7.out)).2.2).mono ?_
  rintro r w8 ⟨rfl, hb8⟩
  have HB8 : Hid (Below w5.heap.size w5 w8) := HB7.out.trans (hb8.mono HB7.out.size)
  clear hb8
  rw [HNH.out]
  go_wp2_with fail
  refine hK.out _ _ (HSW.out _ (HSV.out _ HB8.out)) (fun hHeld => ?_)
  clear hK K
  refine wpAnyH_ready (rs := [13]) (by kernel_rfl) (by simp) ?_
  refine AllReadyH.cons rfl (fun K hK => ?_) AllReadyH.nil
  go_simp
  go_wp2_with fail
  refine (nums_any m nb l _ _ _ _ _ w8 hll (HNW.out _ (HSV.out _ HB8.out))).mono ?_
  rintro r w9 ⟨vn, rfl, hown9, hb9⟩
  have HB9 : Hid (Below w5.heap.size w5 w9) := HB8.out.trans (hb9.mono HB8.out.size)
  rw [← HNN.out] at hown9
  obtain ⟨qn, cqn, rfl, hsrc⟩ := own_src hown9 hnp
  have hq9 : w9.cell? ⟨qn, 0, none⟩ = some (.int .i64 m) := by have h0 := hsrc 0 (.int .i64 m) (by rw [icells, List.getElem?_map, List.getElem?_eq_getElem hnp, HNH2.out hnp]; rfl); simpa [Addr.add_lit] using h0
  clear hb9 hown9 hsrc
  go_wp2_with fail
  refine hK.out _ _ (HSW.out _ (HSV.out _ HB9.out)) (fun hHeld => ?_)
  clear hK K
  refine wpAnyH_take (i := 14) (oi := _) (v := _) (by simp only [List.getElem?_toArray, List.getElem?_cons_succ, List.getElem?_cons_zero]; rfl) (by kernel_rfl) (by kernel_rfl) (by kernel_rfl) (by exact fun _ _ _ h => h) (Or.inl ⟨by rfl, by intro w' hSw; (try dsimp only at hSw); first | (go_simp; done) | (go_simp; with_reducible rfl)⟩) hHeld ?_
  simp only [Act.put, List.setIfInBounds_toArray, List.set_cons_zero, List.set_cons_succ]
  refine wpAnyH_ready (rs := [15]) (by kernel_rfl) (by simp) ?_
  refine AllReadyH.cons rfl (fun K hK => ?_) AllReadyH.nil
  go_simp
  refine hK.out _ _ (HSW.out _ (HSV.out _ HB9.out)) (fun hHeld => ?_)
  clear hK K
  refine wpAnyH_take (i := 16) (oi := _) (v := _) (by simp only [List.getElem?_toArray, List.getElem?_cons_succ, List.getElem?_cons_zero]; rfl) (by kernel_rfl) (by kernel_rfl) (by kernel_rfl) (by exact fun _ _ _ h => h) (Or.inl ⟨by rfl, by intro w' hSw; (try dsimp only at hSw); first | (go_simp; done) | (go_simp; with_reducible rfl)⟩) hHeld ?_
  simp only [Act.put, List.setIfInBounds_toArray, List.set_cons_zero, List.set_cons_succ]
  refine wpAnyH_take (i := 17) (oi := _) (v := _) (by simp only [List.getElem?_toArray, List.getElem?_cons_succ, List.getElem?_cons_zero]; rfl) (by kernel_rfl) (by kernel_rfl) (by kernel_rfl) (by exact fun _ _ _ h => h) (Or.inl ⟨by rfl, by intro w' hSw; (try dsimp only at hSw); first | (go_simp; done) | (go_simp; with_reducible rfl)⟩) hHeld ?_
  simp only [Act.put, List.setIfInBounds_toArray, List.set_cons_zero, List.set_cons_succ]
  refine wpAnyH_take (i := 18) (oi := _) (v := _) (by simp only [List.getElem?_toArray, List.getElem?_cons_succ, List.getElem?_cons_zero]; rfl) (by kernel_rfl) (by kernel_rfl) (by kernel_rfl) (by exact fun _ _ _ h => h) (Or.inl ⟨by rfl, by intro w' hSw; (try dsimp only at hSw); first | (go_simp; done) | (go_simp; with_reducible rfl)⟩) hHeld ?_
  simp only [Act.put, List.setIfInBounds_toArray, List.set_cons_zero, List.set_cons_succ]
  refine wpAnyH_take (i := 19) (oi := _) (v := _) (by simp only [List.getElem?_toArray, List.getElem?_cons_succ, List.getElem?_cons_zero]; rfl) (by kernel_rfl) (by kernel_rfl) (by kernel_rfl) (by exact fun _ _ _ h => h) (Or.inl ⟨by rfl, by intro w' hSw; (try dsimp only at hSw); first | (go_simp; done) | (go_simp; with_reducible rfl)⟩) hHeld ?_
  simp only [Act.put, List.setIfInBounds_toArray, List.set_cons_zero, List.set_cons_succ]
  refine wpAnyH_take (i := 20) (oi := _) (v := _) (by simp only [List.getElem?_toArray, List.getElem?_cons_succ, List.getElem?_cons_zero]; rfl) (by kernel_rfl) (by kernel_rfl) (by kernel_rfl) (by exact fun _ _ _ h => h) (Or.inl ⟨by rfl, by intro w' hSw; (try dsimp only at hSw); first | (go_simp; done) | (go_simp; with_reducible rfl)⟩) hHeld ?_
  simp only [Act.put, List.setIfInBounds_toArray, List.set_cons_zero, List.set_cons_succ]
  refine wpAnyH_take (i := 21) (oi := _) (v := _) (by simp only [List.getElem?_toArray, List.getElem?_cons_succ, List.getElem?_cons_zero]; rfl) (by kernel_rfl) (by kernel_rfl) (by kernel_rfl) (by exact fun _ _ _ h => h) (Or.inl ⟨by rfl, by intro w' hSw; (try dsimp only at hSw); first | (go_simp; done) | (go_simp; with_reducible rfl)⟩) hHeld ?_
  simp only [Act.put, List.setIfInBounds_toArray, List.set_cons_zero, List.set_cons_succ]
  refine wpAnyH_take (i := 22) (oi := _) (v := _) (by simp only [List.getElem?_toArray, List.getElem?_cons_succ, List.getElem?_cons_zero]; rfl) (by kernel_rfl) (by kernel_rfl) (by kernel_rfl) (by exact fun _ _ _ h => h) (Or.inl ⟨by rfl, by intro w' hSw; (try dsimp only at hSw); first | (go_simp; done) | (go_simp; with_reducible rfl)⟩) hHeld ?_
  simp only [Act.put, List.setIfInBounds_toArray, List.set_cons_zero, List.set_cons_succ]
  refine wpAnyH_take (i := 23) (oi := _) (v := _) (by simp only [List.getElem?_toArray, List.getElem?_cons_succ, List.getElem?_cons_zero]; rfl) (by kernel_rfl) (by kernel_rfl) (by kernel_rfl) (by exact fun _ _ _ h => h) (Or.inl ⟨by rfl, by intro w' hSw; (try dsimp only at hSw); first | (go_simp; done) | (go_simp; with_reducible rfl)⟩) hHeld ?_
  simp only [Act.put, List.setIfInBounds_toArray, List.set_cons_zero, List.set_cons_succ]
  refine wpAnyH_take (i := 24) (oi := _) (v := _) (by simp only [List.getElem?_toArray, List.getElem?_cons_succ, List.getElem?_cons_zero]; rfl) (by kernel_rfl) (by kernel_rfl) (by kernel_rfl) (by exact fun _ _ _ h => h) (Or.inl ⟨by rfl, by intro w' hSw; (try dsimp only at hSw); first | (go_simp; done) | (go_simp; with_reducible rfl)⟩) hHeld ?_
  simp only [Act.put, List.setIfInBounds_toArray, List.set_cons_zero, List.set_cons_succ]
  refine wpAnyH_done (by kernel_rfl) ?_ _
  clear hHeld
  have HSA : Hid (∀ W : World, Below w9.heap.size w9 W → Below w5.heap.size w5 W) := fun W hW => HB9.out.trans (hW.mono HB9.out.size)
  have HBW : Hid (∀ W : World, Below w9.heap.size w9 W → Below w.heap.size w W) := fun W hW => HB3.out.trans ((HSV.out _ (HSA.out _ hW)).mono HB3.out.size)
  generalize hxs : opsOf l = xs at *
  go_wp2
  go_loopw [9] (fun i wr => ∃ j : Nat, j ≤ xs.length ∧ i = .int .i64 j ∧ Below w9.heap.size w9 wr) (fun i _ => xs.length - (intOf i).toNat)
  case atStart => exact ⟨0, Nat.zero_le _, rfl, Below.refl _ _⟩
  case round =>
    obtain ⟨j, hj, rfl, hbw⟩ := hrel
    have HBR : Hid (Below w9.heap.size w9 wr) := hbw
    clear hbw
    by_cases hlt : j < xs.length
    · obtain ⟨q1, hp1, d1⟩ := HS1.out wr (HSA.out _ HBR.out) j hlt
      obtain ⟨q2, hp2, d2⟩ := HS2.out wr (HSA.out _ HBR.out) j hlt
      subst hp1 hp2
      generalize xs[j] = xj at *
      go_wp2_with fail
      go_region
      go_wp2
      go_roundw
      case rel => exact ⟨j + 1, by omega, by go_num, HBR.out.drew⟩
      case measure => simp [intOf]; omega
    · obtain rfl : j = xs.length := by omega
      go_wp2
      go_ret
      exact ⟨rfl, HBW.out _ HBR.out⟩

theorem faultTexts_calls {H : Type} {enc : TypeId × Value → H} {sp : Nat → Bool} {held : Bool} {d : DataW H} {p : List MemPlace} (n : Int) (a : Option Addr) (len cap : Nat) (w : World) (_ : (Lit.int .i64 n).wf = true)
    (h : DataW.Trod enc Tryd.prog w 0 sp held 22 (.slice a len cap) d p) (hL : Laid w) :
    Calls Tryd.prog 3 #[.int .i64 n, .slice a len cap] w fun e w' => e = .returned (.bool true) ∧ Below w.heap.size w w' := by
  obtain ⟨L, hI, hl⟩ := St.items_of_trod h
  exact faultTexts_walk n a len cap L w hl hI hL

end Go.Proofs.YtocfhejjmefmcaaDoor.Fa
