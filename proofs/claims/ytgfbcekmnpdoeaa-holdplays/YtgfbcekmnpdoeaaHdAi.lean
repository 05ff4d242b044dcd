/-
  What of hold.Holds[int] reads alone: which drop stays, the first that does, the things of drops, who is inside. No condition.
-/
import Derived.Test.YtgfbcekmnpdoeaaHdP
import Derived.Test.YtgfbcekmnpdoeaaFaApp
import Derived.Deep.RegionHeld3
namespace Go.Proofs.Ytgfbcekmnpdoeaa.Hdi
open Go.ChangeShapes Go.WideShapes Go.ChangeAt Go.RowKit Go.Proofs.Fa Go.Proofs.Ytgfbcekmnpdoeaa.Hd
open Go.Proofs.Ytgfbcekmnpdoeaa.Nv (Turn Grow lt_of_heap lt_of_cell cell_of_heap free_of_heap icells scells icells_one scells_one)

def dcells : List (Int × Int) → List Value
  | [] => []
  | d :: r => .int .i64 d.1 :: .int .i64 d.2 :: dcells r
theorem dcells_append (a b : List (Int × Int)) : dcells (a ++ b) = dcells a ++ dcells b := by
  induction a with
  | nil => rfl
  | cons c a ih => simp [dcells, ih]
theorem dcells_length (a : List (Int × Int)) : (dcells a).length = a.length * 2 := by
  induction a with
  | nil => rfl
  | cons c a ih => simp [dcells, ih]; omega
theorem dcells_at (a : List (Int × Int)) (j : Nat) (h : j < a.length) : (dcells a)[j * 2]? = some (.int .i64 a[j].1) ∧ (dcells a)[j * 2 + 1]? = some (.int .i64 a[j].2) := by
  induction a generalizing j with
  | nil => simp at h
  | cons x a ih =>
    cases j with
    | zero => exact ⟨rfl, rfl⟩
    | succ j =>
      have := ih j (by simpa using h)
      rw [show (j + 1) * 2 = j * 2 + 2 by omega]
      exact this
theorem dcells_take (l : List (Int × Int)) (i : Nat) : (dcells l).take (i * 2) = dcells (l.take i) := by
  induction l generalizing i with
  | nil => simp [dcells]
  | cons c r ih =>
    cases i with
    | zero => simp [dcells]
    | succ i => rw [show (i + 1) * 2 = i * 2 + 1 + 1 by omega]; simp [dcells, ih]
theorem dcells_drop (l : List (Int × Int)) (i : Nat) : (dcells l).drop (i * 2) = dcells (l.drop i) := by
  induction l generalizing i with
  | nil => simp [dcells]
  | cons c r ih =>
    cases i with
    | zero => simp
    | succ i => rw [show (i + 1) * 2 = i * 2 + 1 + 1 by omega]; simp [dcells, ih]

/-- A slice of drops. -/
def DRow (w : World) (v : Value) (l : List (Int × Int)) : Prop := ORow w 82 v l.length (dcells l)
theorem DRow.cell {w : World} {g off n cap : Nat} {l : List (Int × Int)} (h : DRow w (.slice (some ⟨g, off, none⟩) n cap) l) (hn : n = l.length) (k : Nat) (hk : k < l.length) : w.cell? ⟨g, off + k * 2, none⟩ = some (.int .i64 l[k].1) ∧ w.cell? ⟨g, off + k * 2 + 1, none⟩ = some (.int .i64 l[k].2) := by
  subst hn
  obtain ⟨h0, h1⟩ := dcells_at l k hk
  exact ⟨ORow.cells h _ _ h0, by have := ORow.cells h _ _ h1; rw [← Nat.add_assoc] at this; exact this⟩

set_option maxRecDepth 100000
set_option maxHeartbeats 2000000

variable {w : World}

theorem stays_any (x : Int) (k e : Int) (bx b : Nat) (h0 : w.cell? ⟨bx, 0, none⟩ = some (.pointer (some ⟨b, 0, none⟩))) (h2 : w.cell? ⟨b, 2, none⟩ = some (.int .i64 e)) :
    Calls Try.prog 39 #[.agg #[.int .i64 x, .int .i64 k], .pointer (some ⟨bx, 0, none⟩)] w fun r w' => r = .returned (.bool (decide (e ≤ k))) ∧ Below w.heap.size w w' := by
  obtain ⟨w1, hw1⟩ : ∃ w1, w1 = w.alloc (Obj.cells #[.int .i64 x, .int .i64 k] 82) := ⟨_, rfl⟩
  have hb1 : Below w.heap.size w w1 := by rw [hw1]; exact (Below.refl _ _).alloc (Nat.le_refl _) _
  have hx1 : w1.cell? ⟨w.heap.size, 1, none⟩ = some (.int .i64 k) := by rw [hw1]; exact cell_of_heap (heap_alloc_new w _) 1 _ rfl
  have k0 : w1.cell? ⟨bx, 0, none⟩ = some (.pointer (some ⟨b, 0, none⟩)) := (hb1.cell (p := ⟨bx, 0, none⟩) (lt_of_cell h0)).trans h0
  have k2 : w1.cell? ⟨b, 2, none⟩ = some (.int .i64 e) := (hb1.cell (p := ⟨b, 2, none⟩) (lt_of_cell h2)).trans h2
  have HB : Hid (Below w.heap.size w w1) := hb1
  clear h0 h2 hb1
  go_enter Try.func39, Try.ntmps39
  go_wp2_with fail
  rw [← hw1]
  clear hw1
  refine wp_region_held_drew (S := fun W => W.cell? ⟨w.heap.size, 1, none⟩ = some (.int .i64 k) ∧ W.cell? ⟨bx, 0, none⟩ = some (.pointer (some ⟨b, 0, none⟩)) ∧ W.cell? ⟨b, 2, none⟩ = some (.int .i64 e)) (by kernel_rfl) (by exact ⟨hx1, k0, k2⟩) (fun hHeld => ?_)
  change wpAnyH _ _ _ _ _ 8 (Array.replicate 8 false) _ _
  refine wpAnyH_take (i := 0) (oi := _) (v := _) (by simp only [List.getElem?_toArray, List.getElem?_cons_zero]; rfl) (by kernel_rfl) (by kernel_rfl) (by kernel_rfl) (by exact fun _ _ _ h => h) (Or.inl ⟨by rfl, by intro w' hSw; (try dsimp only at hSw); first | (go_simp; done) | (go_simp; with_reducible rfl)⟩) hHeld ?_
  simp only [Act.put, List.setIfInBounds_toArray, List.set_cons_zero, List.set_cons_succ]
  refine wpAnyH_take (i := 1) (oi := _) (v := _) (by simp only [List.getElem?_toArray, List.getElem?_cons_succ, List.getElem?_cons_zero]; rfl) (by kernel_rfl) (by kernel_rfl) (by kernel_rfl) (by exact fun _ _ _ h => h) (Or.inl ⟨by rfl, by intro w' hSw; (try dsimp only at hSw); first | (go_simp; done) | (go_simp; with_reducible rfl)⟩) hHeld ?_
  simp only [Act.put, List.setIfInBounds_toArray, List.set_cons_zero, List.set_cons_succ]
  refine wpAnyH_take (i := 2) (oi := _) (v := _) (by simp only [List.getElem?_toArray, List.getElem?_cons_succ, List.getElem?_cons_zero]; rfl) (by kernel_rfl) (by kernel_rfl) (by kernel_rfl) (by exact fun _ _ _ h => h) (Or.inl ⟨by rfl, by intro w' hSw; (try dsimp only at hSw); first | (go_simp; done) | (go_simp; with_reducible rfl)⟩) hHeld ?_
  simp only [Act.put, List.setIfInBounds_toArray, List.set_cons_zero, List.set_cons_succ]
  refine wpAnyH_take (i := 3) (oi := _) (v := _) (by simp only [List.getElem?_toArray, List.getElem?_cons_succ, List.getElem?_cons_zero]; rfl) (by kernel_rfl) (by kernel_rfl) (by kernel_rfl) (by exact fun _ _ _ h => h) (Or.inl ⟨by rfl, by intro w' hSw; (try dsimp only at hSw); first | (go_simp; done) | (go_simp; with_reducible rfl)⟩) hHeld ?_
  simp only [Act.put, List.setIfInBounds_toArray, List.set_cons_zero, List.set_cons_succ]
  refine wpAnyH_take (i := 4) (oi := _) (v := _) (by simp only [List.getElem?_toArray, List.getElem?_cons_succ, List.getElem?_cons_zero]; rfl) (by kernel_rfl) (by kernel_rfl) (by kernel_rfl) (by exact fun _ _ _ h => h) (Or.inl ⟨by rfl, by intro w' hSw; (try dsimp only at hSw); first | (go_simp; done) | (go_simp; with_reducible rfl)⟩) hHeld ?_
  simp only [Act.put, List.setIfInBounds_toArray, List.set_cons_zero, List.set_cons_succ]
  refine wpAnyH_take (i := 5) (oi := _) (v := _) (by simp only [List.getElem?_toArray, List.getElem?_cons_succ, List.getElem?_cons_zero]; rfl) (by kernel_rfl) (by kernel_rfl) (by kernel_rfl) (by exact fun _ _ _ h => h) (Or.inl ⟨by rfl, by intro w' hSw; (try dsimp only at hSw); first | (go_simp; done) | (go_simp; with_reducible rfl)⟩) hHeld ?_
  simp only [Act.put, List.setIfInBounds_toArray, List.set_cons_zero, List.set_cons_succ]
  refine wpAnyH_take (i := 6) (oi := _) (v := _) (by simp only [List.getElem?_toArray, List.getElem?_cons_succ, List.getElem?_cons_zero]; rfl) (by kernel_rfl) (by kernel_rfl) (by kernel_rfl) (by exact fun _ _ _ h => h) (Or.inl ⟨by rfl, by intro w' hSw; (try dsimp only at hSw); first | (go_simp; done) | (go_simp; with_reducible rfl)⟩) hHeld ?_
  simp only [Act.put, List.setIfInBounds_toArray, List.set_cons_zero, List.set_cons_succ]
  refine wpAnyH_take (i := 7) (oi := _) (v := _) (by simp only [List.getElem?_toArray, List.getElem?_cons_succ, List.getElem?_cons_zero]; rfl) (by kernel_rfl) (by kernel_rfl) (by kernel_rfl) (by exact fun _ _ _ h => h) (Or.inl ⟨by rfl, by intro w' hSw; (try dsimp only at hSw); first | (go_simp; done) | (go_simp; with_reducible rfl)⟩) hHeld ?_
  simp only [Act.put, List.setIfInBounds_toArray, List.set_cons_zero, List.set_cons_succ]
  refine wpAnyH_done (by kernel_rfl) ?_ _
  clear hHeld
  go_wp2
  go_ret
  exact ⟨rfl, HB.out.drew⟩

theorem index_any (v : Value) (l : List (Int × Int)) (e : Int) (bx b : Nat) (hr : DRow w v l) (_ : l.length ≤ 1000000) (h0 : w.cell? ⟨bx, 0, none⟩ = some (.pointer (some ⟨b, 0, none⟩))) (h2 : w.cell? ⟨b, 2, none⟩ = some (.int .i64 e)) :
    Calls Try.prog 40 #[v, .func (.func 39) #[] #[.pointer (some ⟨bx, 0, none⟩)]] w fun r w' => ((∃ k : Nat, k < l.length ∧ r = .returned (.int .i64 k) ∧ freeN l e = k) ∨ (r = .returned (.int .i64 (-1)) ∧ freeN l e = l.length)) ∧ Below w.heap.size w w' := by
  have HR : Hid (DRow w v l) := hr
  have H0 : Hid (w.cell? ⟨bx, 0, none⟩ = some (.pointer (some ⟨b, 0, none⟩))) := h0
  have H2 : Hid (w.cell? ⟨b, 2, none⟩ = some (.int .i64 e)) := h2
  obtain ⟨a, cap, hv⟩ : ∃ a cap, v = .slice a l.length cap := by
    rcases hr.two with ⟨rfl, h⟩ | ⟨g, off, cap, rfl, _⟩
    · exact ⟨none, 0, by rw [h]⟩
    · exact ⟨_, _, rfl⟩
  subst hv
  clear hr h0 h2
  go_enter Try.func40, Try.ntmps40
  go_wp2
  go_loopw [8] (fun i wr => ∃ k : Nat, k ≤ l.length ∧ i = .int .i64 k ∧ (∀ j (hj : j < l.length), j < k → (l[j]).2 < e) ∧ Below w.heap.size w wr) (fun i _ => l.length - (intOf i).toNat)
  case atStart => exact ⟨0, Nat.zero_le _, rfl, fun _ _ h => absurd h (Nat.not_lt_zero _), Below.refl _ _⟩
  case round =>
    obtain ⟨k, hk, rfl, hno, hb⟩ := hrel
    have HNO : Hid (∀ j (hj : j < l.length), j < k → (l[j]).2 < e) := hno
    have HB : Hid (Below w.heap.size w wr) := hb
    clear hno hb
    by_cases hlt : k < l.length
    · have hRk : DRow wr _ l := ORow.below HR.out HB.out (Nat.le_refl _)
      rcases hRk.two with ⟨_, h⟩ | ⟨g, off, cap', he, hc1, hc2⟩
      · omega
      cases he
      obtain ⟨e0, e1⟩ := hRk.cell rfl k hlt
      have HST : Hid ((l[k]).2 < e → ∀ j (hj : j < l.length), j < k + 1 → (l[j]).2 < e) := fun h j hj hjk => by
        rcases Nat.lt_or_ge j k with hjk' | hjk'
        · exact HNO.out j hj hjk'
        · obtain rfl : j = k := by omega
          exact h
      have HFD : Hid (¬ (l[k]).2 < e → freeN l e = k) := fun h => freeN_at l e k HNO.out (.inr ⟨hlt, h⟩)
      have HM := stays_any (w := wr) l[k].1 l[k].2 e bx b ((HB.out.cell (p := ⟨bx, 0, none⟩) (lt_of_cell H0.out)).trans H0.out) ((HB.out.cell (p := ⟨b, 2, none⟩) (lt_of_cell H2.out)).trans H2.out)
      clear hRk
      generalize l[k] = x at *
      obtain ⟨x, y⟩ := x
      dsimp only at HM e0 e1
      go_wp2_with fail
      refine HM.mono ?_
      rintro r w2 ⟨rfl, hb2⟩
      have HB2 : Hid (Below w.heap.size w w2) := HB.out.trans (hb2.mono HB.out.size)
      clear hb2 HM e0 e1
      by_cases hs : e ≤ y
      · have HA : Hid (freeN l e = k) := HFD.out (by first | exact hs | (show ¬ y < e; omega))
        rw [decide_eq_true hs]
        clear HFD HST hs
        go_wp2
        go_ret
        exact ⟨.inl ⟨k, hlt, rfl, HA.out⟩, HB2.out⟩
      · have HA : Hid (∀ j (hj : j < l.length), j < k + 1 → (l[j]).2 < e) := HST.out (by first | (show y < e; omega) | omega)
        rw [decide_eq_false hs]
        clear HFD HST hs
        go_wp2
        go_roundw
        case rel => exact ⟨k + 1, by omega, by go_num, HA.out, HB2.out⟩
        case measure => simp [intOf]; omega
    · obtain rfl : k = l.length := by omega
      have HA : Hid (freeN l e = l.length) := freeN_at l e _ HNO.out (.inl rfl)
      clear HNO
      go_wp2
      go_ret
      exact ⟨.inr ⟨rfl, HA.out⟩, HB.out⟩

theorem info_t : (Try.prog.info? 3).map (fun i => (i.zero, i.size, i.bytes)) = some (some (.int .i64 0), 1, 8) := by kernel_rfl
theorem info_parts {o : Option TypeInfo} {z : Option Value} {s b : Nat} (h : o.map (fun i => (i.zero, i.size, i.bytes)) = some (z, s, b)) : ∃ i, o = some i ∧ i.zero = z ∧ i.size = s ∧ i.bytes = b := by
  cases o with
  | none => cases h
  | some i => simp at h; exact ⟨i, rfl, h.1, h.2.1, h.2.2⟩
def TRow (w : World) (B : Nat) (v : Value) (l : List Int) : Prop := w.ownsRow B 3 1 v l.length (icells l)

theorem things_any (v : Value) (l : List (Int × Int)) (hr : DRow w v l) (hn : l.length ≤ 1000000) :
    Calls Try.prog 41 #[v] w fun r w' => ∃ v', r = .returned v' ∧ TRow w' w.heap.size v' (l.map Prod.fst) ∧ Below w.heap.size w w' := by
  obtain ⟨i0, hi, hz0, hz1, hz2⟩ := info_parts info_t
  have HR : Hid (DRow w v l) := hr
  obtain ⟨a, cap, hv⟩ : ∃ a cap, v = .slice a l.length cap := by
    rcases hr.two with ⟨rfl, h⟩ | ⟨g, off, cap, rfl, _⟩
    · exact ⟨none, 0, by rw [h]⟩
    · exact ⟨_, _, rfl⟩
  subst hv
  clear hr
  go_enter Try.func41, Try.ntmps41
  go_wp2
  go_loopw [3, 8] (fun tv i wr => ∃ k : Nat, k ≤ l.length ∧ i = .int .i64 k ∧ wr.ownsRow w.heap.size 3 1 tv k (icells ((l.take k).map Prod.fst)) ∧ Below w.heap.size w wr) (fun _ i _ => l.length - (intOf i).toNat)
  case atStart => exact ⟨0, Nat.zero_le _, rfl, World.ownsRow_nil _ _ _ _, Below.refl _ _⟩
  case round =>
    rename_i u3 _
    obtain ⟨k, hk, rfl, ho, hb⟩ := hrel
    have HO : Hid (wr.ownsRow w.heap.size 3 1 _ k (icells ((l.take k).map Prod.fst))) := ho
    have HB : Hid (Below w.heap.size w wr) := hb
    clear ho hb
    by_cases hlt : k < l.length
    · have hRk : DRow wr _ l := ORow.below HR.out HB.out (Nat.le_refl _)
      rcases hRk.two with ⟨_, h⟩ | ⟨g, off, cap', he, hc1, hc2⟩
      · omega
      cases he
      obtain ⟨e0, e1⟩ := hRk.cell rfl k hlt
      have HT : Hid (icells ((l.take (k + 1)).map Prod.fst) = icells ((l.take k).map Prod.fst) ++ [.int .i64 (l[k]).1]) := by
        show _ = _
        rw [List.take_succ_eq_append_getElem hlt, List.map_append]
        exact List.map_append
      clear hRk
      generalize l[k] = x at *
      obtain ⟨x, y⟩ := x
      dsimp only at e0 e1 HT
      have ho1 := World.ownsRow.alloc (World.ownsRow.alloc HO.out (Obj.cells #[.int .i64 x, .int .i64 y] 82)) (Obj.cells #[.int .i64 x] 3)
      have hc := heap_alloc_new (wr.alloc (Obj.cells #[.int .i64 x, .int .i64 y] 82)) (Obj.cells #[.int .i64 x] 3)
      rw [World.size_alloc] at hc
      have hb2 : Below w.heap.size w ((wr.alloc (Obj.cells #[.int .i64 x, .int .i64 y] 82)).alloc (Obj.cells #[.int .i64 x] 3)) := (HB.out.alloc HB.out.size _).alloc (by have := HB.out.size; rw [World.size_alloc]; omega) _
      have HSZ : Hid (w.heap.size ≤ wr.heap.size) := HB.out.size
      have HGE : Hid (∀ g, u3.ownBlock = some g → w.heap.size ≤ g) := fun g hg => by
        rcases HO.out.2 with ⟨rfl, _⟩ | ⟨g', cap, cur, rfl, hb, _⟩
        · cases hg
        · cases hg; exact hb
      go_wp2_with (at_builtin; refine wpList_append_near _ rfl _ _ 29 rfl w.heap.size 3 i0 _ 1 8 Try.underlying29 hi hz0 hz1 hz2 rfl (by decide) _ k _ rfl ho1 ⟨wr.heap.size + 1, 0, none⟩ 1 1 [.int .i64 x] rfl rfl (fun j u hu => by (cases j with | zero => (cases hu; exact cell_of_heap hc 0 _ rfl) | succ j => cases hu)) (fun u hu => by (simp only [List.mem_cons, List.not_mem_nil, or_false] at hu; subst hu; rfl)) (by unfold maxLen; omega) (by omega) (by have := HSZ.out; rw [World.size_alloc, World.size_alloc]; omega) ?_; intro v' w1 hown' hgrow hnear)
      go_roundw
      case rel => exact ⟨k + 1, by omega, by go_num, by rw [HT.out]; exact hown', hb2.grown hgrow hb2.size (fun k e => HGE.out k e)⟩
      case measure => simp [intOf]; omega
    · obtain rfl : k = l.length := by omega
      rw [List.take_length] at HO
      go_wp2
      go_ret
      exact ⟨_, rfl, by unfold TRow; rw [List.length_map]; exact HO.out, HB.out⟩

theorem inside_any (mv : Value) (m : List Int) (n b : Nat) (x : Int) (h1 : w.cell? ⟨b, 1, none⟩ = some mv) (hm : MapIs w mv m n) (hx : -9223372036854775808 ≤ x ∧ x ≤ 9223372036854775807) :
    Calls Try.prog 38 #[.pointer (some ⟨b, 0, none⟩), .int .i64 x] w fun r w' => r = .returned (.bool (decide (x ∈ m))) ∧ Below w.heap.size w w' := by
  have hl := hm.look x hx
  clear hm
  generalize decide (x ∈ m) = q at *
  go_enter Try.func38, Try.ntmps38
  go_wp2
  go_ret
  exact ⟨rfl, (Below.refl _ _).alloc (Nat.le_refl _) _⟩

end Go.Proofs.Ytgfbcekmnpdoeaa.Hdi
