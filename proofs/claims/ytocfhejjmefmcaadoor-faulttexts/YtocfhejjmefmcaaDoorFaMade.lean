/-
  'made' of layer 2's statements: an error of any steps, and the document's node of it. No condition.
-/
import Derived.Test.YtocfhejjmefmcaaDoorFaMadeM
import Derived.Test.YtocfhejjmefmcaaDoorFaRes
import Derived.Test.YtocfhejjmefmcaaDoorFaSmall
import Derived.Test.YtocfhejjmefmcaaDoorLeM
import Derived.Deep.RegionHeld3
namespace Go.Proofs.YtocfhejjmefmcaaDoor.Fa
open Go.ChangeShapes Go.WideShapes Go.ChangeAt Go.RowKit Go.Proofs.Fa
open Go.Proofs.YtocfhejjmefmcaaDoor.St (ItemsAt)
open Go.Proofs.YtocfhejjmefmcaaDoor.Le (tmod_fix)

/-- A number of 1 to 19, as the statements take it. -/
theorem num19 (x : Int) : ∃ k : Int, wrap64 (1 + (wrap64 (x.tmod 19 + 19)).tmod 19) = k ∧ 1 ≤ k ∧ k ≤ 19 ∧ k = 1 + x % 19 := by
  refine ⟨1 + x % 19, ?_, by omega, by omega, rfl⟩
  rw [tmod_fix x 19 (by decide) (by decide)]
  unfold wrap64; omega

theorem cut20 (a : ByteArray) : ∃ la : Nat, (if (20 : Int) < a.size then (20 : Int) else a.size) = (la : Int) ∧ la ≤ a.size ∧ Hid (la = min a.size 20) := by
  by_cases h : 20 < a.size
  · exact ⟨20, by rw [if_pos (by omega)]; rfl, by omega, show _ = _ by omega⟩
  · exact ⟨a.size, by rw [if_neg (by omega)], by omega, show _ = _ by omega⟩

/-- Four errors, two of which are none. -/
def fourE (x y : Value) : Nat → Value
  | 1 => x
  | 2 => y
  | _ => .nilIface
theorem fourE_errs (t u : TypeId) (a b : Value) : errs (fourE (.iface t a) (.iface u b)) 4 = [.iface t a, .iface u b] := by
  simp [errs, fourE, isNilB]
theorem fourE_cells (w : World) (x y : Value) (t : TypeId) (i : Nat) (hi : i < 4) : (w.alloc (.cells #[.nilIface, x, y, .nilIface] t)).cell? ⟨w.heap.size, i, none⟩ = some (fourE x y i) := by
  rw [World.cell?_alloc_new]
  match i, hi with
  | 0, _ => rfl
  | 1, _ => rfl
  | 2, _ => rfl
  | 3, _ => rfl
theorem fourE_isI (t u : TypeId) (a b : Value) (i : Nat) (hi : i < 4) : IsI (fourE (.iface t a) (.iface u b) i) := by
  match i, hi with
  | 0, _ => exact .inl rfl
  | 1, _ => exact .inr ⟨_, _, rfl⟩
  | 2, _ => exact .inr ⟨_, _, rfl⟩
  | 3, _ => exact .inl rfl

/-- Where 'made' stands behind k steps. -/
def MadeAt (w : World) (nb : Nat) (m : Int) (L : Nat → St.Item) (k : Nat) (e : Value) (wr : World) : Prop :=
  ErrAt wr (some (some m)) (layers L k) e ∧ Below w.heap.size w wr ∧ ∃ c0 c1 c2 c3 c4, wr.heap[nb]? = some (.cells #[c0, c1, c2, c3, c4] 28 (0, 0)) ∧ NodeAt wr nb m (layers L k) [c0, c1, c2, c3, c4]

theorem MadeAt.drew {w wr : World} {nb k : Nat} {m : Int} {L : Nat → St.Item} {e : Value} (h : MadeAt w nb m L k e wr) : MadeAt w nb m L k e wr.drew := by
  obtain ⟨h1, h2, c0, c1, c2, c3, c4, h3, h4⟩ := h
  exact ⟨ErrAt.below (Below.refl _ _).drew h1, h2.drew, c0, c1, c2, c3, c4, h3, NodeAt.but (Nat.le_refl _) (But.below (Below.refl _ _).drew) h4⟩

/-- Five cells of a block written. -/
def set5 (w : World) (nb : Nat) (v0 v1 v2 v3 v4 : Value) : World := ((((w.setCell ⟨nb, 0, none⟩ v0).setCell ⟨nb, 1, none⟩ v1).setCell ⟨nb, 2, none⟩ v2).setCell ⟨nb, 3, none⟩ v3).setCell ⟨nb, 4, none⟩ v4
theorem set5_heap {w : World} {nb : Nat} {a0 a1 a2 a3 a4 : Value} {t : TypeId} (h : w.heap[nb]? = some (.cells #[a0, a1, a2, a3, a4] t (0, 0))) (v0 v1 v2 v3 v4 : Value) : (set5 w nb v0 v1 v2 v3 v4).heap[nb]? = some (.cells #[v0, v1, v2, v3, v4] t (0, 0)) := by
  have h0 := heap_setCell_same w nb 0 _ t v0 h
  have h1 := heap_setCell_same _ nb 1 _ t v1 h0
  have h2 := heap_setCell_same _ nb 2 _ t v2 h1
  have h3 := heap_setCell_same _ nb 3 _ t v3 h2
  exact heap_setCell_same _ nb 4 _ t v4 h3
theorem set5_other (w : World) (nb : Nat) (v0 v1 v2 v3 v4 : Value) (j : Nat) (hj : j ≠ nb) : (set5 w nb v0 v1 v2 v3 v4).heap[j]? = w.heap[j]? := by
  unfold set5
  rw [heap_setCell_other _ ⟨nb, 4, none⟩ j _ hj, heap_setCell_other _ ⟨nb, 3, none⟩ j _ hj, heap_setCell_other _ ⟨nb, 2, none⟩ j _ hj, heap_setCell_other _ ⟨nb, 1, none⟩ j _ hj, heap_setCell_other _ ⟨nb, 0, none⟩ j _ hj]
theorem set5_size (w : World) (nb : Nat) (v0 v1 v2 v3 v4 : Value) : (set5 w nb v0 v1 v2 v3 v4).heap.size = w.heap.size := by simp [set5]
theorem set5_below {B : Nat} {w0 w : World} (h : Below B w0 w) (nb : Nat) (hb : B ≤ nb) (v0 v1 v2 v3 v4 : Value) : Below B w0 (set5 w nb v0 v1 v2 v3 v4) :=
  ((((h.setCell (p := ⟨nb, 0, none⟩) hb _).setCell (p := ⟨nb, 1, none⟩) hb _).setCell (p := ⟨nb, 2, none⟩) hb _).setCell (p := ⟨nb, 3, none⟩) hb _).setCell (p := ⟨nb, 4, none⟩) hb _

theorem step_cell (w : World) (nb b i : Nat) (v0 v1 v2 v3 v4 : Value) (o : Obj) (u : Value) (hb : b ≠ nb) (hl : b < w.heap.size) (h : w.cell? ⟨b, i, none⟩ = some u) : ((set5 w nb v0 v1 v2 v3 v4).alloc o).drew.cell? ⟨b, i, none⟩ = some u := by
  have e : ((set5 w nb v0 v1 v2 v3 v4).alloc o).heap[b]? = w.heap[b]? := (Below.heap_alloc _ _ _ (by rw [set5_size]; exact hl)).trans (set5_other w nb _ _ _ _ _ b hb)
  have d : ∀ X : World, X.drew.cell? ⟨b, i, none⟩ = X.cell? ⟨b, i, none⟩ := fun X => by simp
  rw [d]
  exact (World.cell?_of_block (a := ⟨b, i, none⟩) e).trans h

/-- A step on: the error has one layer more, and the node is written anew. -/
theorem made_step {w wr w2 : World} {nb k : Nat} {m : Int} {L : Nat → St.Item} {v : Value} {f0 f1 f2 : Int} {f3 : ByteArray} {s4 : Option Addr} {x4 y4 : Nat} {o : Obj} {v0 v1 v2 v3 v4 : Value}
    (hB : Below w.heap.size w wr) (hb2 : Below wr.heap.size wr w2) (hnb : w.heap.size ≤ nb) (hN : w2.heap[nb]? = some (.cells #[.int .i64 f0, .int .i64 f1, .int .i64 f2, .string f3, .slice s4 x4 y4] 28 (0, 0)))
    (hv : ErrAt w2 (some (some m)) (layers L (k + 1)) v) (hT : ∀ W : World, But nb wr W → W.heap[w2.heap.size]? = some o → NodeAt W nb m (layers L (k + 1)) [v0, v1, v2, v3, v4]) :
    MadeAt w nb m L (k + 1) v ((set5 w2 nb v0 v1 v2 v3 v4).alloc o) := by
  have hlt : nb < w2.heap.size := lt_of_heap hN
  have hbut : But nb w2 ((set5 w2 nb v0 v1 v2 v3 v4).alloc o) := by
    refine ⟨by simp [set5_size], fun j hj hn => ?_⟩
    rw [Below.heap_alloc _ _ _ (by rw [set5_size]; exact hj), set5_other _ _ _ _ _ _ _ j hn]
  refine ⟨ErrAt.but hN hbut hv, ?_, v0, v1, v2, v3, v4, ?_, hT _ ((But.below hb2).trans hbut) ?_⟩
  · have h0 := set5_below (hB.trans (hb2.mono hB.size)) nb hnb v0 v1 v2 v3 v4
    exact h0.alloc h0.size _
  · rw [Below.heap_alloc _ _ _ (by rw [set5_size]; exact hlt)]
    exact set5_heap hN v0 v1 v2 v3 v4
  · have := heap_alloc_new (set5 w2 nb v0 v1 v2 v3 v4) o
    rw [set5_size] at this
    exact this

set_option maxRecDepth 100000
set_option maxHeartbeats 8000000
theorem made_any (n : Int) (a : Option Addr) (len cap : Nat) (L : Nat → St.Item) (w : World) (hlen : len ≤ maxLen) (hI : ItemsAt w a len L) :
    Calls Tryd.prog 9 #[.int .i64 n, .slice a len cap] w fun e w' => (∃ v c0 c1 c2 c3 c4 nb, e = .returned (.tuple #[v, .agg #[c0, c1, c2, c3, c4]]) ∧ ErrAt w' (some (some (1 + n % 19))) (layers L (min len 10)) v ∧ NodeAt w' nb (1 + n % 19) (layers L (min len 10)) [c0, c1, c2, c3, c4]) ∧ Below w.heap.size w w' := by
  unfold maxLen at hlen
  have HI : Hid (ItemsAt w a len L) := hI
  clear hI
  obtain ⟨m, em, hm1, hm2, hm⟩ := num19 n
  rw [← hm]
  clear hm
  go_enter Tryd.func9, Tryd.ntmps9
  go_wp2
  rw [em]
  clear em
  have hs0 : ((w.alloc (Obj.cells #[.int .i64 0, .int .i64 0, .int .i64 0, .string ⟨#[]⟩, .slice none 0 0] 28)).alloc (Obj.cells #[.int .i64 3, .int .i64 0, .int .i64 m, .string ⟨#[]⟩, .slice none 0 0] 28)).heap[w.heap.size]? = some (.cells #[.int .i64 0, .int .i64 0, .int .i64 0, .string ⟨#[]⟩, .slice none 0 0] 28 (0, 0)) :=
    (Below.heap_alloc _ _ _ (by simp)).trans (heap_alloc_new w _)
  have hs1 : ((w.alloc (Obj.cells #[.int .i64 0, .int .i64 0, .int .i64 0, .string ⟨#[]⟩, .slice none 0 0] 28)).alloc (Obj.cells #[.int .i64 3, .int .i64 0, .int .i64 m, .string ⟨#[]⟩, .slice none 0 0] 28)).heap[w.heap.size + 1]? = some (.cells #[.int .i64 3, .int .i64 0, .int .i64 m, .string ⟨#[]⟩, .slice none 0 0] 28 (0, 0)) := by
    have := heap_alloc_new (w.alloc (Obj.cells #[.int .i64 0, .int .i64 0, .int .i64 0, .string ⟨#[]⟩, .slice none 0 0] 28)) (Obj.cells #[.int .i64 3, .int .i64 0, .int .i64 m, .string ⟨#[]⟩, .slice none 0 0] 28)
    rw [World.size_alloc] at this
    exact this
  go_loopw [6, 8] (fun e i wr => ∃ k : Nat, k ≤ len ∧ k ≤ 10 ∧ i = .int .i64 k ∧ MadeAt w (w.heap.size + 1) m L k e wr ∧ wr.heap[w.heap.size]? = some (.cells #[.int .i64 0, .int .i64 0, .int .i64 0, .string ⟨#[]⟩, .slice none 0 0] 28 (0, 0))) (fun _ i _ => 10 - (intOf i).toNat)
  case atStart => exact ⟨0, by omega, by omega, rfl, ⟨rfl, ((Below.refl _ _).alloc (Nat.le_refl _) _).alloc (by simp) _, _, _, _, _, _, hs1, rfl⟩, hs0⟩
  case round =>
    obtain ⟨k, hk, hk10, rfl, ⟨hE, hB, c0, c1, c2, c3, c4, hN, hT⟩, hR⟩ := hrel
    obtain ⟨f0, f1, f2, f3, s4, x4, y4, hcs⟩ := hT.five
    simp only [List.cons.injEq, and_true] at hcs
    obtain ⟨rfl, rfl, rfl, rfl, rfl⟩ := hcs
    have HE : Hid (ErrAt wr (some (some m)) (layers L k) _) := hE
    have HB : Hid (Below w.heap.size w wr) := hB
    have HN : Hid (wr.heap[w.heap.size + 1]? = _) := hN
    have HT : Hid (NodeAt wr (w.heap.size + 1) m (layers L k) _) := hT
    have HR : Hid (wr.heap[w.heap.size]? = _) := hR
    obtain ⟨te, ue, rfl⟩ := HE.out.iface
    have d0 := cell_of_heap hN 0 _ rfl
    have d1 := cell_of_heap hN 1 _ rfl
    have d2 := cell_of_heap hN 2 _ rfl
    have d3 := cell_of_heap hN 3 _ rfl
    have d4 := cell_of_heap hN 4 _ rfl
    have z0 := free_of_heap hN 0
    have z1 := free_of_heap hN 1
    have z2 := free_of_heap hN 2
    have z3 := free_of_heap hN 3
    have z4 := free_of_heap hN 4
    clear hE hB hN hT hR hs0 hs1
    by_cases hc : k < len ∧ k < 10
    · obtain ⟨hkl, hkt⟩ := hc
      obtain ⟨hp, hwf⟩ := HI.out
      have hwf' := hwf k hkl
      rcases hp with h0 | ⟨b, off, rfl, hb0, hcell⟩
      · omega
      obtain ⟨i0, i1, i2, i3⟩ := hcell k hkl
      have hcc : ∀ i, wr.cell? ⟨b, i, none⟩ = w.cell? ⟨b, i, none⟩ := fun i => HB.out.cell (p := ⟨b, i, none⟩) hb0
      rw [← hcc] at i0 i1 i2 i3
      have hbl : b < wr.heap.size := Nat.lt_of_lt_of_le hb0 HB.out.size
      clear hcell hwf hcc
      obtain ⟨kk, ek, hk1, hk2, HKK⟩ := num19 (L k).size
      have HKK' : Hid (kk = 1 + (L k).size % 19) := HKK
      clear HKK
      cases hj : (L k).isText with
      | true =>
        rw [hj] at i3
        go_wp2_with fail
        refine (join_any _ 4 4 _ _ (by decide) (fourE_cells _ _ _ _) (fourE_isI _ _ _ _)).mono ?_
        rintro r w2 ⟨⟨v, rfl, hJ⟩, hb2⟩
        rw [fourE_errs] at hJ
        obtain ⟨g, cap', rfl, hBg, hcl⟩ := hJ
        have e0 := hcl 0 _ rfl
        have e1 := hcl 1 _ rfl
        have hb2' : Below wr.heap.size wr w2 := ((Below.refl _ _).alloc (Nat.le_refl _) _).trans (hb2.mono (by simp))
        have hN2 := (hb2'.block _ (lt_of_heap HN.out)).trans HN.out
        have HN2 : Hid (w2.heap[w.heap.size + 1]? = _) := hN2
        have HR2 : Hid (w2.heap[w.heap.size]? = _) := (hb2'.block _ (lt_of_heap HR.out)).trans HR.out
        have HB2 : Hid (Below wr.heap.size wr w2) := hb2'
        have HG0 : Hid (w2.cell? ⟨g, 0, none⟩ = some (.iface te ue)) := e0
        have HG1 : Hid (w2.cell? ⟨g, 1, none⟩ = some (.iface 36 (.int .i64 kk))) := e1
        have d0 := cell_of_heap hN2 0 _ rfl
        have d1 := cell_of_heap hN2 1 _ rfl
        have d2 := cell_of_heap hN2 2 _ rfl
        have d3 := cell_of_heap hN2 3 _ rfl
        have d4 := cell_of_heap hN2 4 _ rfl
        have z0 := free_of_heap hN2 0
        have z1 := free_of_heap hN2 1
        have z2 := free_of_heap hN2 2
        have z3 := free_of_heap hN2 3
        have z4 := free_of_heap hN2 4
        have hl2 : w.heap.size + 1 < w2.heap.size := lt_of_heap hN2
        clear hcl hb2 hb2' hN2 e0 e1
        go_wp2
        go_roundw
        case rel =>
          have hy : (layerOf (L k)).join = true := (layerOf_join _).trans hj
          have hyk : (layerOf (L k)).k = kk := (layerOf_k _).trans HKK'.out.symm
          refine ⟨k + 1, by omega, by omega, by go_num, made_step HB.out HB2.out (by omega) HN2.out (.inl ⟨hy, g, cap', _, rfl, HG0.out, by rw [hyk]; exact HG1.out, ErrAt.below HB2.out HE.out⟩) (fun W hbw hW => ⟨w2.heap.size, _, _, _, _, _, by omega, NodeAt.but (Nat.le_refl _) hbw HT.out, .inl ⟨hy, rfl, by rw [hyk]; exact hW⟩⟩), ?_⟩
          exact (Below.heap_alloc _ _ _ (by simp; omega)).trans ((set5_other _ _ _ _ _ _ _ _ (by omega)).trans HR2.out)
        case measure => simp [intOf]; omega
      | false =>
        rw [hj] at i3
        obtain ⟨la, ea, hla, HLA⟩ := cut20 (L k).text
        have hpos : (layerOf (L k)).pos = (L k).n := layerOf_pos _ hwf'.2.1
        have HPO : Hid ((layerOf (L k)).pos = (L k).n) := hpos
        have HOP : Hid ((layerOf (L k)).op = (L k).text.extract 0 la) := by show _ = _; rw [layerOf_op, HLA.out]
        clear hpos
        go_wp2
        refine wp_region_held_drew (S := fun W => W.cell? ⟨b, off + k * 4, none⟩ = some (.string (L k).text)) (by kernel_rfl) (by exact i0) (fun hHeld => ?_)
        change wpAnyH _ _ _ _ _ 14 (Array.replicate 14 false) _ _
        refine wpAnyH_take (i := 0) (oi := _) (v := _) (by simp only [List.getElem?_toArray, List.getElem?_cons_zero]; rfl) (by kernel_rfl) (by kernel_rfl) (by kernel_rfl) (by exact fun _ _ _ h => h) (Or.inl ⟨by rfl, by intro w' hSw; (try dsimp only at hSw); first | (go_simp; done) | (go_simp; with_reducible rfl)⟩) hHeld ?_
        simp only [Act.put, List.setIfInBounds_toArray, List.set_cons_zero, List.set_cons_succ]
        refine wpAnyH_take (i := 1) (oi := _) (v := _) (by simp only [List.getElem?_toArray, List.getElem?_cons_succ, List.getElem?_cons_zero]; rfl) (by kernel_rfl) (by kernel_rfl) (by kernel_rfl) (by exact fun _ _ _ h => h) (Or.inl ⟨by rfl, by intro w' hSw; (try dsimp only at hSw); first | (go_simp; done) | (go_simp; with_reducible rfl)⟩) hHeld ?_
        simp only [Act.put, List.setIfInBounds_toArray, List.set_cons_zero, List.set_cons_succ]
        refine wpAnyH_take (i := 2) (oi := _) (v := _) (by simp only [List.getElem?_toArray, List.getElem?_cons_succ, List.getElem?_cons_zero]; rfl) (by kernel_rfl) (by kernel_rfl) (by kernel_rfl) (by exact fun _ _ _ h => h) (Or.inl ⟨by rfl, by intro w' hSw; (try dsimp only at hSw); first | (go_simp; done) | (go_simp; with_reducible rfl)⟩) hHeld ?_
        simp only [Act.put, List.setIfInBounds_toArray, List.set_cons_zero, List.set_cons_succ]
        refine wpAnyH_take (i := 3) (oi := _) (v := _) (by simp only [List.getElem?_toArray, List.getElem?_cons_succ, List.getElem?_cons_zero]; rfl) (by kernel_rfl) (by kernel_rfl) (by kernel_rfl) (by exact fun _ _ _ h => h) (Or.inl ⟨by rfl, by intro w' hSw; (try dsimp only at hSw); first | (go_simp; done) | (go_simp; with_reducible rfl)⟩) hHeld ?_
        simp only [Act.put, List.setIfInBounds_toArray, List.set_cons_zero, List.set_cons_succ]
        refine wpAnyH_take (i := 4) (oi := _) (v := _) (by simp only [List.getElem?_toArray, List.getElem?_cons_succ, List.getElem?_cons_zero]; rfl) (by kernel_rfl) (by kernel_rfl) (by kernel_rfl) (by exact fun _ _ _ h => h) (Or.inl ⟨by rfl, by intro w' hSw; (try dsimp only at hSw); first | (go_simp; done) | (go_simp; with_reducible rfl)⟩) hHeld ?_
        simp only [Act.put, List.setIfInBounds_toArray, List.set_cons_zero, List.set_cons_succ]
        refine wpAnyH_take (i := 5) (oi := _) (v := _) (by simp only [List.getElem?_toArray, List.getElem?_cons_succ, List.getElem?_cons_zero]; rfl) (by kernel_rfl) (by kernel_rfl) (by kernel_rfl) (by exact fun _ _ _ h => h) (Or.inl ⟨by rfl, by intro w' hSw; (try dsimp only at hSw); first | (go_simp; done) | (go_simp; with_reducible rfl)⟩) hHeld ?_
        simp only [Act.put, List.setIfInBounds_toArray, List.set_cons_zero, List.set_cons_succ]
        refine wpAnyH_take (i := 6) (oi := _) (v := _) (by simp only [List.getElem?_toArray, List.getElem?_cons_succ, List.getElem?_cons_zero]; rfl) (by kernel_rfl) (by kernel_rfl) (by kernel_rfl) (by exact fun _ _ _ h => h) (Or.inl ⟨by rfl, by intro w' hSw; (try dsimp only at hSw); first | (go_simp; done) | (go_simp; with_reducible rfl)⟩) hHeld ?_
        simp only [Act.put, List.setIfInBounds_toArray, List.set_cons_zero, List.set_cons_succ]
        refine wpAnyH_take (i := 7) (oi := _) (v := _) (by simp only [List.getElem?_toArray, List.getElem?_cons_succ, List.getElem?_cons_zero]; rfl) (by kernel_rfl) (by kernel_rfl) (by kernel_rfl) (by exact fun _ _ _ h => h) (Or.inl ⟨by rfl, by intro w' hSw; (try dsimp only at hSw); first | (go_simp; done) | (go_simp; with_reducible rfl)⟩) hHeld ?_
        simp only [Act.put, List.setIfInBounds_toArray, List.set_cons_zero, List.set_cons_succ]
        refine wpAnyH_take (i := 8) (oi := _) (v := _) (by simp only [List.getElem?_toArray, List.getElem?_cons_succ, List.getElem?_cons_zero]; rfl) (by kernel_rfl) (by kernel_rfl) (by kernel_rfl) (by exact fun _ _ _ h => h) (Or.inl ⟨by rfl, by intro w' hSw; (try dsimp only at hSw); first | (go_simp; done) | (go_simp; with_reducible rfl)⟩) hHeld ?_
        simp only [Act.put, List.setIfInBounds_toArray, List.set_cons_zero, List.set_cons_succ]
        refine wpAnyH_take (i := 9) (oi := _) (v := _) (by simp only [List.getElem?_toArray, List.getElem?_cons_succ, List.getElem?_cons_zero]; rfl) (by kernel_rfl) (by kernel_rfl) (by kernel_rfl) (by exact fun _ _ _ h => h) (Or.inl ⟨by rfl, by intro w' hSw; (try dsimp only at hSw); first | (go_simp; done) | (go_simp; with_reducible rfl)⟩) hHeld ?_
        simp only [Act.put, List.setIfInBounds_toArray, List.set_cons_zero, List.set_cons_succ]
        refine wpAnyH_take (i := 10) (oi := _) (v := _) (by simp only [List.getElem?_toArray, List.getElem?_cons_succ, List.getElem?_cons_zero]; rfl) (by kernel_rfl) (by kernel_rfl) (by kernel_rfl) (by exact fun _ _ _ h => h) (Or.inl ⟨by rfl, by intro w' hSw; (try dsimp only at hSw); first | (go_simp; done) | (go_simp; with_reducible rfl)⟩) hHeld ?_
        simp only [Act.put, List.setIfInBounds_toArray, List.set_cons_zero, List.set_cons_succ]
        refine wpAnyH_take (i := 11) (oi := _) (v := _) (by simp only [List.getElem?_toArray, List.getElem?_cons_succ, List.getElem?_cons_zero]; rfl) (by kernel_rfl) (by kernel_rfl) (by kernel_rfl) (by exact fun _ _ _ h => h) (Or.inl ⟨by rfl, by intro w' hSw; (try dsimp only at hSw); first | (go_simp; done) | (go_simp; with_reducible rfl)⟩) hHeld ?_
        simp only [Act.put, List.setIfInBounds_toArray, List.set_cons_zero, List.set_cons_succ]
        refine wpAnyH_take (i := 12) (oi := _) (v := _) (by simp only [List.getElem?_toArray, List.getElem?_cons_succ, List.getElem?_cons_zero]; rfl) (by kernel_rfl) (by kernel_rfl) (by kernel_rfl) (by exact fun _ _ _ h => h) (Or.inl ⟨by rfl, by intro w' hSw; (try dsimp only at hSw); first | (go_simp; done) | (go_simp; with_reducible rfl)⟩) hHeld ?_
        simp only [Act.put, List.setIfInBounds_toArray, List.set_cons_zero, List.set_cons_succ]
        refine wpAnyH_take (i := 13) (oi := _) (v := _) (by simp only [List.getElem?_toArray, List.getElem?_cons_succ, List.getElem?_cons_zero]; rfl) (by kernel_rfl) (by kernel_rfl) (by kernel_rfl) (by exact fun _ _ _ h => h) (Or.inl ⟨by rfl, by intro w' hSw; (try dsimp only at hSw); first | (go_simp; done) | (go_simp; with_reducible rfl)⟩) hHeld ?_
        simp only [Act.put, List.setIfInBounds_toArray, List.set_cons_zero, List.set_cons_succ]
        refine wpAnyH_done (by kernel_rfl) ?_ _
        have HB1 : Hid (Below wr.heap.size wr wr.drew) := (Below.refl _ _).drew
        clear hHeld
        go_wp2_with fail
        refine (wrap_some _ _ _ _ _).mono ?_
        rintro r w2 ⟨rfl, hw2⟩
        have hb2' : Below wr.heap.size wr w2 := by rw [hw2]; exact HB1.out.alloc (by simp) _
        have HG0 : Hid (w2.heap[wr.heap.size]? = some (.cells #[.string ((L k).text.extract 0 la), .int .i64 (L k).n, .iface te ue] 46 (0, 0))) := by
          show w2.heap[wr.heap.size]? = _
          rw [hw2]; exact heap_alloc_new wr.drew _
        have hN2 := (hb2'.block _ (lt_of_heap HN.out)).trans HN.out
        have HN2 : Hid (w2.heap[w.heap.size + 1]? = _) := hN2
        have HR2 : Hid (w2.heap[w.heap.size]? = _) := (hb2'.block _ (lt_of_heap HR.out)).trans HR.out
        have HB2 : Hid (Below wr.heap.size wr w2) := hb2'
        have j1 : w2.cell? ⟨b, off + k * 4 + 1, none⟩ = some (.int .i64 (L k).n) := (hb2'.cell (p := ⟨b, off + k * 4 + 1, none⟩) hbl).trans i1
        have d0 := cell_of_heap hN2 0 _ rfl
        have d1 := cell_of_heap hN2 1 _ rfl
        have d2 := cell_of_heap hN2 2 _ rfl
        have d3 := cell_of_heap hN2 3 _ rfl
        have d4 := cell_of_heap hN2 4 _ rfl
        have z0 := free_of_heap hN2 0
        have z1 := free_of_heap hN2 1
        have z2 := free_of_heap hN2 2
        have z3 := free_of_heap hN2 3
        have z4 := free_of_heap hN2 4
        have hl2 : w.heap.size + 1 < w2.heap.size := lt_of_heap hN2
        have HSW : Hid (∀ W : World, Below w2.heap.size w2 W → W.cell? ⟨b, off + k * 4 + 1, none⟩ = some (.int .i64 (L k).n)) := fun W hW => (hW.cell (p := ⟨b, off + k * 4 + 1, none⟩) (Nat.lt_of_lt_of_le hbl hb2'.size)).trans j1
        have HSX : Hid (∀ (v0 v1 v2 v3 v4 : Value) (o : Obj), ((((((w2.setCell ⟨w.heap.size + 1, 0, none⟩ v0).setCell ⟨w.heap.size + 1, 1, none⟩ v1).setCell ⟨w.heap.size + 1, 2, none⟩ v2).setCell ⟨w.heap.size + 1, 3, none⟩ v3).setCell ⟨w.heap.size + 1, 4, none⟩ v4).alloc o).drew.cell? ⟨b, off + k * 4 + 1, none⟩ = some (.int .i64 (L k).n)) :=
          fun v0 v1 v2 v3 v4 o => step_cell w2 (w.heap.size + 1) b _ v0 v1 v2 v3 v4 o _ (by omega) (Nat.lt_of_lt_of_le hbl hb2'.size) j1
        clear hb2' hN2 hw2
        go_wp2
        refine wp_region_held_drew (S := fun W => W.cell? ⟨b, off + k * 4 + 1, none⟩ = some (.int .i64 (L k).n)) (by kernel_rfl) (by exact j1) (fun hHeld => ?_)
        change wpAnyH _ _ _ _ _ 10 (Array.replicate 10 false) _ _
        refine wpAnyH_take (i := 0) (oi := _) (v := _) (by simp only [List.getElem?_toArray, List.getElem?_cons_zero]; rfl) (by kernel_rfl) (by kernel_rfl) (by kernel_rfl) (by exact fun _ _ _ h => h) (Or.inl ⟨by rfl, by intro w' hSw; (try dsimp only at hSw); first | (go_simp; done) | (go_simp; with_reducible rfl)⟩) hHeld ?_
        simp only [Act.put, List.setIfInBounds_toArray, List.set_cons_zero, List.set_cons_succ]
        refine wpAnyH_take (i := 1) (oi := _) (v := _) (by simp only [List.getElem?_toArray, List.getElem?_cons_succ, List.getElem?_cons_zero]; rfl) (by kernel_rfl) (by kernel_rfl) (by kernel_rfl) (by exact fun _ _ _ h => h) (Or.inl ⟨by rfl, by intro w' hSw; (try dsimp only at hSw); first | (go_simp; done) | (go_simp; with_reducible rfl)⟩) hHeld ?_
        simp only [Act.put, List.setIfInBounds_toArray, List.set_cons_zero, List.set_cons_succ]
        refine wpAnyH_take (i := 2) (oi := _) (v := _) (by simp only [List.getElem?_toArray, List.getElem?_cons_succ, List.getElem?_cons_zero]; rfl) (by kernel_rfl) (by kernel_rfl) (by kernel_rfl) (by exact fun _ _ _ h => h) (Or.inl ⟨by rfl, by intro w' hSw; (try dsimp only at hSw); first | (go_simp; done) | (go_simp; with_reducible rfl)⟩) hHeld ?_
        simp only [Act.put, List.setIfInBounds_toArray, List.set_cons_zero, List.set_cons_succ]
        refine wpAnyH_take (i := 3) (oi := _) (v := _) (by simp only [List.getElem?_toArray, List.getElem?_cons_succ, List.getElem?_cons_zero]; rfl) (by kernel_rfl) (by kernel_rfl) (by kernel_rfl) (by exact fun _ _ _ h => h) (Or.inl ⟨by rfl, by intro w' hSw; (try dsimp only at hSw); first | (go_simp; done) | (go_simp; with_reducible rfl)⟩) hHeld ?_
        simp only [Act.put, List.setIfInBounds_toArray, List.set_cons_zero, List.set_cons_succ]
        refine wpAnyH_take (i := 4) (oi := _) (v := _) (by simp only [List.getElem?_toArray, List.getElem?_cons_succ, List.getElem?_cons_zero]; rfl) (by kernel_rfl) (by kernel_rfl) (by kernel_rfl) (by exact fun _ _ _ h => h) (Or.inl ⟨by rfl, by intro w' hSw; (try dsimp only at hSw); first | (go_simp; done) | (go_simp; with_reducible rfl)⟩) hHeld ?_
        simp only [Act.put, List.setIfInBounds_toArray, List.set_cons_zero, List.set_cons_succ]
        refine wpAnyH_take (i := 5) (oi := _) (v := _) (by simp only [List.getElem?_toArray, List.getElem?_cons_succ, List.getElem?_cons_zero]; rfl) (by kernel_rfl) (by kernel_rfl) (by kernel_rfl) (by exact fun _ _ _ h => h) (Or.inl ⟨by rfl, by intro w' hSw; (try dsimp only at hSw); first | (go_simp; done) | (go_simp; with_reducible rfl)⟩) hHeld ?_
        simp only [Act.put, List.setIfInBounds_toArray, List.set_cons_zero, List.set_cons_succ]
        refine wpAnyH_ready (rs := [6]) (by kernel_rfl) (by simp) ?_
        refine AllReadyH.cons rfl (fun K hK => ?_) AllReadyH.nil
        go_simp
        go_wp2_with fail
        refine hK.out _ _ (HSW.out _ (Below.refl _ _).drew) (fun hHeld => ?_)
        clear hK K
        refine wpAnyH_ready (rs := [7]) (by kernel_rfl) (by simp) ?_
        refine AllReadyH.cons rfl (fun K hK => ?_) AllReadyH.nil
        go_simp
        go_wp2_with fail
        refine hK.out _ _ (HSW.out _ ((Below.refl _ _).alloc (Nat.le_refl _) _).drew) (fun hHeld => ?_)
        clear hK K
        refine wpAnyH_take (i := 8) (oi := _) (v := _) (by simp only [List.getElem?_toArray, List.getElem?_cons_succ, List.getElem?_cons_zero]; rfl) (by kernel_rfl) (by kernel_rfl) (by kernel_rfl) (by exact fun _ _ _ h => h) (Or.inl ⟨by rfl, by intro w' hSw; (try dsimp only at hSw); first | (go_simp; done) | (go_simp; with_reducible rfl)⟩) hHeld ?_
        simp only [Act.put, List.setIfInBounds_toArray, List.set_cons_zero, List.set_cons_succ]
        refine wpAnyH_ready (rs := [9]) (by kernel_rfl) (by simp) ?_
        refine AllReadyH.cons rfl (fun K hK => ?_) AllReadyH.nil
        go_simp
        go_wp2_with fail
        refine hK.out _ _ (HSX.out _ _ _ _ _ _) (fun hHeld => ?_)
        clear hK K
        refine wpAnyH_done (by kernel_rfl) ?_ _
        go_wp2
        go_roundw
        case rel =>
          have hy : (layerOf (L k)).join = false := (layerOf_join _).trans hj
          refine ⟨k + 1, by omega, by omega, by go_num, (made_step HB.out HB2.out (by omega) HN2.out (.inr ⟨hy, _, _, rfl, by rw [HOP.out, HPO.out]; exact HG0.out, ErrAt.below HB2.out HE.out⟩) (fun W hbw hW => ⟨w2.heap.size, _, _, _, _, _, by omega, NodeAt.but (Nat.le_refl _) hbw HT.out, .inr ⟨hy, by rw [HOP.out, HPO.out], hW⟩⟩)).drew, ?_⟩
          exact (Below.heap_alloc _ _ _ (by simp; omega)).trans ((set5_other _ _ _ _ _ _ _ _ (by omega)).trans HR2.out)
        case measure => simp [intOf]; omega
    · have hkm : k = min len 10 := by omega
      have e0 := cell_of_heap HR.out 0 _ rfl
      have e1 := cell_of_heap HR.out 1 _ rfl
      have e2 := cell_of_heap HR.out 2 _ rfl
      have e3 := cell_of_heap HR.out 3 _ rfl
      have e4 := cell_of_heap HR.out 4 _ rfl
      have y0 := free_of_heap HR.out 0
      have y1 := free_of_heap HR.out 1
      have y2 := free_of_heap HR.out 2
      have y3 := free_of_heap HR.out 3
      have y5 := free_of_heap HR.out 4
      have HKM : Hid (k = min len 10) := hkm
      clear hkm
      by_cases hkl : k < len
      all_goals
        have hk9 : k < len → ¬ k < 10 := fun h1 h2 => hc ⟨h1, h2⟩
        go_wp2
        refine wp_region_held_drew (S := fun _ => True) (by kernel_rfl) (by exact True.intro) (fun hHeld => ?_)
        change wpAnyH _ _ _ _ _ 4 (Array.replicate 4 false) _ _
        refine wpAnyH_take (i := 0) (oi := _) (v := _) (by simp only [List.getElem?_toArray, List.getElem?_cons_zero]; rfl) (by kernel_rfl) (by kernel_rfl) (by kernel_rfl) (by exact fun _ _ _ h => h) (Or.inl ⟨by rfl, by intro w' hSw; (try dsimp only at hSw); first | (go_simp; done) | (go_simp; with_reducible rfl)⟩) hHeld ?_
        simp only [Act.put, List.setIfInBounds_toArray, List.set_cons_zero, List.set_cons_succ]
        refine wpAnyH_take (i := 2) (oi := _) (v := _) (by simp only [List.getElem?_toArray, List.getElem?_cons_succ, List.getElem?_cons_zero]; rfl) (by kernel_rfl) (by kernel_rfl) (by kernel_rfl) (by exact fun _ _ _ h => h) (Or.inl ⟨by rfl, by intro w' hSw; (try dsimp only at hSw); first | (go_simp; done) | (go_simp; with_reducible rfl)⟩) hHeld ?_
        simp only [Act.put, List.setIfInBounds_toArray, List.set_cons_zero, List.set_cons_succ]
        refine wpAnyH_ready (rs := [1]) (by kernel_rfl) (by simp) ?_
        refine AllReadyH.cons rfl (fun K hK => ?_) AllReadyH.nil
        go_simp
        go_wp2_with fail
        refine hK.out _ _ True.intro (fun hHeld => ?_)
        clear hK K
        refine wpAnyH_ready (rs := [3]) (by kernel_rfl) (by simp) ?_
        refine AllReadyH.cons rfl (fun K hK => ?_) AllReadyH.nil
        go_simp
        go_wp2_with fail
        refine hK.out _ _ True.intro (fun hHeld => ?_)
        clear hK K
        refine wpAnyH_done (by kernel_rfl) ?_ _
        go_wp2
        have hH : ((set5 wr w.heap.size (.int .i64 f0) (.int .i64 f1) (.int .i64 f2) (.string f3) (.slice s4 x4 y4)).drew).heap[w.heap.size]? = some (.cells #[.int .i64 f0, .int .i64 f1, .int .i64 f2, .string f3, .slice s4 x4 y4] 28 (0, 0)) := set5_heap HR.out _ _ _ _ _
        refine bodyPost_ret (v := .tuple #[.iface te ue, .agg #[.int .i64 f0, .int .i64 f1, .int .i64 f2, .string f3, .slice s4 x4 y4]]) ?_ rfl ?_
        · exact res_made _ _ w.heap.size _ _ _ _ _ _ rfl rfl hH
        · have hbut : But w.heap.size wr (set5 wr w.heap.size (.int .i64 f0) (.int .i64 f1) (.int .i64 f2) (.string f3) (.slice s4 x4 y4)).drew := ⟨by simp [set5_size], fun j _ hj => set5_other wr w.heap.size _ _ _ _ _ j hj⟩
          rw [← HKM.out]
          exact ⟨⟨_, _, _, _, _, _, w.heap.size + 1, rfl, ErrAt.but HR.out hbut HE.out, NodeAt.but (by omega) hbut HT.out⟩, (set5_below HB.out _ (Nat.le_refl _) _ _ _ _ _).drew⟩

end Go.Proofs.YtocfhejjmefmcaaDoor.Fa
