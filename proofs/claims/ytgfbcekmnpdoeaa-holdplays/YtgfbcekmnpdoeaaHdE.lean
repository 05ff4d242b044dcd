/-
  Is a thing held? Things are dropped when nobody is inside; nothing that holds. No condition.
-/
import Derived.Test.YtgfbcekmnpdoeaaHdDi
import Derived.Lib.BufferMore
import Derived.Recover
namespace Go.Proofs.Ytgfbcekmnpdoeaa.Hdi
open Go.ChangeShapes Go.WideShapes Go.ChangeAt Go.RowKit Go.Proofs.Fa Go.Proofs.Ytgfbcekmnpdoeaa.Hd
open Go.Proofs.Ytgfbcekmnpdoeaa.Nv (Turn Grow lt_of_heap lt_of_cell cell_of_heap free_of_heap icells scells icells_one scells_one)

set_option maxRecDepth 100000
set_option maxHeartbeats 2000000

variable {w : World} {S : Nat → Prop} {b : Nat} {s : HS Int} {mv hv : Value}

theorem is_any (x k y : Int) (z : Nat) (h0 : w.cell? ⟨z, 0, none⟩ = some (.int .i64 y)) :
    Calls Try.prog 47 #[.agg #[.int .i64 x, .int .i64 k], .pointer (some ⟨z, 0, none⟩)] w fun r w' => r = .returned (.bool (x == y)) ∧ Below w.heap.size w w' := by
  have hb1 : Below w.heap.size w (w.alloc (Obj.cells #[.int .i64 x, .int .i64 k] 82)) := (Below.refl _ _).alloc (Nat.le_refl _) _
  have hlt := lt_of_cell h0
  go_enter Try.func47, Try.ntmps47
  go_wp2
  go_ret
  exact ⟨rfl, hb1⟩

theorem find_any (v : Value) (l : List (Int × Int)) (y : Int) (z : Nat) (hr : DRow w v l) (_ : l.length ≤ 1000000) (h0 : w.cell? ⟨z, 0, none⟩ = some (.int .i64 y)) :
    Calls Try.prog 40 #[v, .func (.func 47) #[] #[.pointer (some ⟨z, 0, none⟩)]] w fun r w' => (∃ k, r = .returned (.int .i64 k) ∧ decide (0 ≤ k) = l.any (fun d => d.1 == y)) ∧ Below w.heap.size w w' := by
  have HR : Hid (DRow w v l) := hr
  have H0 : Hid (w.cell? ⟨z, 0, none⟩ = some (.int .i64 y)) := h0
  obtain ⟨a, cap, hv⟩ : ∃ a cap, v = .slice a l.length cap := by
    rcases hr.two with ⟨rfl, h⟩ | ⟨g, off, cap, rfl, _⟩
    · exact ⟨none, 0, by rw [h]⟩
    · exact ⟨_, _, rfl⟩
  subst hv
  clear hr h0
  go_enter Try.func40, Try.ntmps40
  go_wp2
  go_loopw [8] (fun i wr => ∃ k : Nat, k ≤ l.length ∧ i = .int .i64 k ∧ (l.take k).any (fun d => d.1 == y) = false ∧ Below w.heap.size w wr) (fun i _ => l.length - (intOf i).toNat)
  case atStart => exact ⟨0, Nat.zero_le _, rfl, by simp, Below.refl _ _⟩
  case round =>
    obtain ⟨k, hk, rfl, hno, hb⟩ := hrel
    have HNO : Hid ((l.take k).any (fun d => d.1 == y) = false) := hno
    have HB : Hid (Below w.heap.size w wr) := hb
    clear hno hb
    by_cases hlt : k < l.length
    · have hRk : DRow wr _ l := ORow.below HR.out HB.out (Nat.le_refl _)
      rcases hRk.two with ⟨_, h⟩ | ⟨g, off, cap', he, hc1, hc2⟩
      · omega
      cases he
      obtain ⟨e0, e1⟩ := hRk.cell rfl k hlt
      have HST : Hid ((l.take (k + 1)).any (fun d => d.1 == y) = ((l[k]).1 == y)) := by
        show _ = _
        rw [List.take_succ_eq_append_getElem hlt, List.any_append, HNO.out]
        simp
      have HALL : Hid (((l[k]).1 == y) = true → l.any (fun d => d.1 == y) = true) := fun h => List.any_eq_true.2 ⟨l[k], List.getElem_mem hlt, h⟩
      have HM := is_any (w := wr) l[k].1 l[k].2 y z ((HB.out.cell (p := ⟨z, 0, none⟩) (lt_of_cell H0.out)).trans H0.out)
      clear hRk
      generalize l[k] = x at *
      obtain ⟨x, q⟩ := x
      dsimp only at HM e0 e1 HST HALL
      go_wp2_with fail
      refine HM.mono ?_
      rintro r w2 ⟨rfl, hb2⟩
      have HB2 : Hid (Below w.heap.size w w2) := HB.out.trans (hb2.mono HB.out.size)
      clear hb2 HM e0 e1
      cases hs : (x == y)
      · rw [hs] at HST
        clear HALL hs
        go_wp2
        go_roundw
        case rel => exact ⟨k + 1, by omega, by go_num, HST.out, HB2.out⟩
        case measure => simp [intOf]; omega
      · have HA : Hid (l.any (fun d => d.1 == y) = true) := HALL.out hs
        clear HALL HST hs
        go_wp2
        go_ret
        exact ⟨⟨_, rfl, by rw [HA.out]; simp⟩, HB2.out⟩
    · obtain rfl : k = l.length := by omega
      rw [List.take_length] at HNO
      go_wp2
      go_ret
      exact ⟨⟨_, rfl, by rw [HNO.out]; rfl⟩, HB.out⟩

theorem contains_any (v : Value) (l : List (Int × Int)) (y : Int) (z : Nat) (hr : DRow w v l) (hn : l.length ≤ 1000000) (h0 : w.cell? ⟨z, 0, none⟩ = some (.int .i64 y)) :
    Calls Try.prog 46 #[v, .func (.func 47) #[] #[.pointer (some ⟨z, 0, none⟩)]] w fun r w' => r = .returned (.bool (l.any (fun d => d.1 == y))) ∧ Below w.heap.size w w' := by
  have HI := find_any v l y z hr hn h0
  obtain ⟨a, cap, hv⟩ : ∃ a cap, v = .slice a l.length cap := by
    rcases hr.two with ⟨rfl, h⟩ | ⟨g, off, cap, rfl, _⟩
    · exact ⟨none, 0, by rw [h]⟩
    · exact ⟨_, _, rfl⟩
  subst hv
  clear hr h0
  go_enter Try.func46, Try.ntmps46
  go_wp2_with fail
  refine HI.mono ?_
  rintro r w1 ⟨⟨k, rfl, hk⟩, hb⟩
  clear HI
  have HK : Hid (decide (0 ≤ k) = l.any (fun d => d.1 == y)) := hk
  have HB : Hid (Below w.heap.size w w1) := hb
  clear hk hb
  go_wp2
  go_ret
  exact ⟨by rw [← HK.out]; rfl, HB.out⟩

theorem recover_idle (w : World) :
    CallsD Try.prog 45 #[] .returning w fun e u' w' => e = .returned (.tuple #[]) ∧ u' = .returning ∧ w' = w := by
  refine callsD_of_wpS Try.func45 rfl fun c₀ cs hu => ?_
  apply wpS_region
  cases c₀
  simp_all [wpOpsS, go_sem, recoverD, Try.ntmps45, bodyPostS, results, Try.results45]

theorem has_any (h : HoldIn w S b s mv hv) (x : Int) : Calls Try.prog 16 #[.pointer (some ⟨b, 0, none⟩), .int .i64 x] w fun e w' => e = .returned (.bool (s.l.any (fun d => d.1 == x))) ∧ Below w.heap.size w w' := by
  have hmf : ∀ (fn : Fn) (first cap : Array Value) (w : World), (Instr.makeFunc fn first cap).run Try.prog w = .ok (.func fn first cap) w := fun _ _ _ _ => rfl
  have hb1 : Below w.heap.size w (w.alloc (Obj.cells #[.int .i64 x] 3)) := (Below.refl _ _).alloc (Nat.le_refl _) _
  have h1 := h.below hb1
  have c3 := cell_of_heap h.main 3 _ rfl
  have HI := contains_any hv s.l x w.heap.size h1.row (by have := h.ok.len; omega) (cell_of_heap (heap_alloc_new w _) 0 _ rfl)
  have HB : Hid (Below w.heap.size w (w.alloc (Obj.cells #[.int .i64 x] 3))) := hb1
  have hbw := lt_of_heap h.main
  clear h h1 hb1
  generalize s.l.any (fun d => d.1 == x) = q at *
  go_enter_defers Try.func16, Try.ntmps16
  go_wp2_with fail
  refine HI.mono ?_
  clear HI
  rintro r w1 ⟨rfl, hb⟩
  have HB2 : Hid (Below w.heap.size w w1) := HB.out.trans (hb.mono HB.out.size)
  clear hb
  go_wp2
  refine leaves_cons (f := 45) (args := #[]) (by simp) (by simp [go_sem]) ?_
  refine (recover_idle _).mono ?_
  rintro e u' w'' ⟨rfl, rfl, rfl⟩
  exact ⟨_, results_tmp rfl _ _ _, rfl, HB2.out⟩

theorem enter_nil (w : World) : Calls Try.prog 8 #[.pointer none] w fun e w' => e = .returned (.int .i64 0) ∧ w' = w := by
  go_enter Try.func8, Try.ntmps8
  go_wp2
  go_ret
  exact ⟨rfl, rfl⟩
theorem leave_nil (x : Int) (w : World) : Calls Try.prog 10 #[.pointer none, .int .i64 x] w fun e w' => e = .returned (.slice none 0 0) ∧ Below w.heap.size w w' := by
  have hb1 : Below w.heap.size w (w.alloc (Obj.cells #[.pointer none] 79)) := (Below.refl _ _).alloc (Nat.le_refl _) _
  go_enter Try.func10, Try.ntmps10
  go_wp2
  go_ret
  exact ⟨rfl, hb1⟩
theorem drop_nil (v : Value) (w : World) : Calls Try.prog 12 #[.pointer none, v] w fun e w' => e = .returned (.slice none 0 0) ∧ w' = w := by
  go_enter Try.func12, Try.ntmps12
  go_wp2
  go_ret
  exact ⟨rfl, rfl⟩
theorem held_nil (w : World) : Calls Try.prog 14 #[.pointer none] w fun e w' => e = .returned (.slice none 0 0) ∧ w' = w := by
  go_enter Try.func14, Try.ntmps14
  go_wp2
  go_ret
  exact ⟨rfl, rfl⟩
theorem count_nil (w : World) : Calls Try.prog 15 #[.pointer none] w fun e w' => e = .returned (.int .i64 0) ∧ w' = w := by
  go_enter Try.func15, Try.ntmps15
  go_wp2
  go_ret
  exact ⟨rfl, rfl⟩
theorem has_nil (x : Int) (w : World) : Calls Try.prog 16 #[.pointer none, .int .i64 x] w fun e w' => e = .returned (.bool false) ∧ Below w.heap.size w w' := by
  have hb1 : Below w.heap.size w (w.alloc (Obj.cells #[.int .i64 x] 3)) := (Below.refl _ _).alloc (Nat.le_refl _) _
  go_enter Try.func16, Try.ntmps16
  go_wp2
  go_ret
  exact ⟨rfl, hb1⟩

theorem TAt.src {w : World} {g off n cap : Nat} {xs : List Int} (h : TAt w (.slice (some ⟨g, off, none⟩) n cap) xs) (j : Nat) (u : Value) (hu : (icells xs)[j]? = some u) : w.cell? ((⟨g, off, none⟩ : Addr).add j) = some u ∧ ((⟨g, off, none⟩ : Addr).add j).block < w.heap.size := by
  rcases h with ⟨h, _⟩ | ⟨g', off', cap', he, h1, h2, h3, hc⟩
  · cases h
  · cases he
    have hj : j < xs.length := by
      have := (List.getElem?_eq_some_iff.1 hu).1
      simpa [icells] using this
    have hu' : u = .int .i64 xs[j] := by
      simp only [icells, List.getElem?_map, List.getElem?_eq_getElem hj, Option.map_some, Option.some.injEq] at hu
      exact hu.symm
    rw [Addr.add_lit]
    exact ⟨by rw [hu']; exact hc j hj, h3⟩

theorem clone_any (v : Value) (xs : List Int) (hr : TAt w v xs) (hn : xs.length ≤ 2000000) :
    Calls Try.prog 44 #[v] w fun e w' => ∃ v', e = .returned v' ∧ TRow w' w.heap.size v' xs ∧ Below w.heap.size w w' := by
  obtain ⟨i0, hi, hz0, hz1, hz2⟩ := info_parts info_t
  have HR : Hid (TAt w v xs) := hr
  rcases hr with ⟨rfl, rfl⟩ | ⟨g, off, cap, rfl, hc1, hc2, hgl, _⟩
  · have he := Lib.run_eql_slice_nil_nil (P := Try.prog) w 0 0 Try.underlying29
    go_enter Try.func44, Try.ntmps44
    go_wp2
    go_ret
    exact ⟨_, rfl, World.ownsRow_nil _ _ _ _, Below.refl _ _⟩
  · have hsrc := TAt.src HR.out
    have he := Lib.run_eql_slice_some_nil (P := Try.prog) w ⟨g, off, none⟩ xs.length cap Try.underlying29
    go_enter Try.func44, Try.ntmps44
    go_wp2_with (at_builtin; refine wpList_append_near _ rfl _ _ 29 rfl w.heap.size 3 i0 _ 1 8 Try.underlying29 hi hz0 hz1 hz2 rfl (by decide) _ 0 [] rfl (World.ownsRow_lit w #[] 0 (Nat.le_refl _) (by decide) rfl) ⟨g, off, none⟩ xs.length cap (icells xs) rfl (by simp [icells]) (fun j u hu => (World.cell?_of_block (Below.heap_alloc _ _ _ (hsrc j u hu).2)).trans (hsrc j u hu).1) (icells_one xs) (by unfold maxLen; omega) (by omega) (by simp) ?_; intro v' w1 hown' hgrow hnear)
    go_ret
    refine ⟨_, rfl, ?_, ?_⟩
    · rw [Nat.zero_add, List.nil_append] at hown'; exact hown'
    · exact ((Below.refl _ w).alloc (Nat.le_refl _) _).grown hgrow (by simp) (fun k e => by cases e; exact Nat.le_refl _)

theorem drop_none (v : Value) (xs : List Int) (h : HoldIn w S b s mv hv) (hm : s.m = []) (hx : TAt w v xs) (hl : xs.length ≤ 2000000) :
    Calls Try.prog 12 #[.pointer (some ⟨b, 0, none⟩), v] w fun e w' => ∃ v', e = .returned v' ∧ TRow w' w.heap.size v' xs ∧ Below w.heap.size w w' := by
  have c1 := cell_of_heap h.main 1 _ rfl
  have hlen := h.mp.len
  rw [hm] at hlen
  have HC := clone_any v xs hx hl
  clear h hx hm
  go_enter Try.func12, Try.ntmps12
  go_wp2_with fail
  refine HC.mono ?_
  clear HC
  rintro e w' ⟨v', rfl, hr, hb⟩
  obtain ⟨va, vc, rfl⟩ := hr.slice
  go_wp2
  go_ret
  exact ⟨_, rfl, hr, hb⟩

theorem same_any (v1 v2 : Value) (l m : List Int) (h1 : TAt w v1 l) (h2 : TAt w v2 m) (hl : l.length ≤ 1000000) :
    Calls Try.prog 9 #[v1, v2] w fun e w' => e = .returned (.bool (decide (l = m))) ∧ Below w.heap.size w w' := by
  have H1 : Hid (TAt w v1 l) := h1
  have H2 : Hid (TAt w v2 m) := h2
  obtain ⟨a1, c1, hv1⟩ : ∃ a cap, v1 = .slice a l.length cap := by
    rcases h1 with ⟨rfl, rfl⟩ | ⟨g, off, cap, rfl, _⟩
    · exact ⟨none, 0, rfl⟩
    · exact ⟨_, _, rfl⟩
  obtain ⟨a2, c2, hv2⟩ : ∃ a cap, v2 = .slice a m.length cap := by
    rcases h2 with ⟨rfl, rfl⟩ | ⟨g, off, cap, rfl, _⟩
    · exact ⟨none, 0, rfl⟩
    · exact ⟨_, _, rfl⟩
  subst hv1 hv2
  clear h1 h2
  by_cases hlen : l.length = m.length
  · have hq : (((l.length : Nat) : Int) == (m.length : Nat)) = true := by rw [hlen]; exact beq_self_eq_true _
    go_enter Try.func9, Try.ntmps9
    go_wp2
    go_loopw [5] (fun i wr => ∃ k : Nat, k ≤ l.length ∧ i = .int .i64 k ∧ l.take k = m.take k ∧ Below w.heap.size w wr) (fun i _ => l.length - (intOf i).toNat)
    case atStart => exact ⟨0, Nat.zero_le _, rfl, rfl, Below.refl _ _⟩
    case round =>
      obtain ⟨k, hk, rfl, hno, hb⟩ := hrel
      have HNO : Hid (l.take k = m.take k) := hno
      have HB : Hid (Below w.heap.size w wr) := hb
      clear hno hb
      by_cases hlt : k < l.length
      · have hkm : k < m.length := by omega
        rcases H1.out with ⟨_, h0⟩ | ⟨g1, o1, p1, he1, _, hp1, hg1, hx1⟩
        · rw [h0] at hlt; cases hlt
        rcases H2.out with ⟨_, h0⟩ | ⟨g2, o2, p2, he2, _, hp2, hg2, hx2⟩
        · rw [h0] at hkm; cases hkm
        cases he1
        cases he2
        have e1 := (HB.out.cell (p := ⟨g1, o1 + k, none⟩) hg1).trans (hx1 k hlt)
        have e2 := (HB.out.cell (p := ⟨g2, o2 + k, none⟩) hg2).trans (hx2 k hkm)
        have HST : Hid (l[k] = m[k] → l.take (k + 1) = m.take (k + 1)) := fun e => by
          rw [List.take_succ_eq_append_getElem hlt, List.take_succ_eq_append_getElem hkm, HNO.out, e]
        have HNE : Hid (l[k] ≠ m[k] → decide (l = m) = false) := fun e => by
          rw [decide_eq_false_iff_not]
          intro e'
          subst e'
          exact e rfl
        clear hx1 hx2
        generalize l[k] = x at *
        generalize m[k] = y at *
        go_wp2_with fail
        refine wp_region_held_drew (S := fun W => W.cell? ⟨g1, o1 + k, none⟩ = some (.int .i64 x) ∧ W.cell? ⟨g2, o2 + k, none⟩ = some (.int .i64 y)) (by kernel_rfl) (by exact ⟨e1, e2⟩) (fun hHeld => ?_)
        change wpAnyH _ _ _ _ _ 9 (Array.replicate 9 false) _ _
        refine wpAnyH_take (i := 0) (oi := _) (v := _) (by simp only [List.getElem?_toArray, List.getElem?_cons_zero]; rfl) (by kernel_rfl) (by kernel_rfl) (by kernel_rfl) (by exact fun _ _ _ h => h) (Or.inl ⟨by rfl, by intro w' hSw; (try dsimp only at hSw); first | (go_simp; done) | (go_simp; with_reducible rfl)⟩) hHeld ?_
        simp only [Act.put, List.setIfInBounds_toArray, List.set_cons_zero, List.set_cons_succ]
        refine wpAnyH_take (i := 1) (oi := _) (v := _) (by simp only [List.getElem?_toArray, List.getElem?_cons_succ, List.getElem?_cons_zero]; rfl) (by kernel_rfl) (by kernel_rfl) (by kernel_rfl) (by exact fun _ _ _ h => h) (Or.inl ⟨by rfl, by intro w' hSw; (try dsimp only at hSw); first | (go_simp; done) | (go_simp; with_reducible rfl)⟩) hHeld ?_
        simp only [Act.put, List.setIfInBounds_toArray, List.set_cons_zero, List.set_cons_succ]
        refine wpAnyH_take (i := 2) (oi := _) (v := _) (by simp only [List.getElem?_toArray, List.getElem?_cons_succ, List.getElem?_cons_zero]; rfl) (by kernel_rfl) (by kernel_rfl) (by kernel_rfl) (by exact fun _ _ _ h => h) (Or.inl ⟨by rfl, by intro w' hSw; (try dsimp only at hSw); first | (go_simp; done) | (go_simp; with_reducible rfl)⟩) hHeld ?_
        simp only [Act.put, List.setIfInBounds_toArray, List.set_cons_zero, List.set_cons_succ]
        refine wpAnyH_take (i := 3) (oi := _) (v := _) (by simp only [List.getElem?_toArray, List.getElem?_cons_succ, List.getElem?_cons_zero]; rfl) (by kernel_rfl) (by kernel_rfl) (by kernel_rfl) (by exact fun _ _ _ h => h) (Or.inl ⟨by rfl, by intro w' hSw; (try dsimp only at hSw); first | (go_simp; done) | (go_simp; with_reducible rfl)⟩) hHeld ?_
        simp only [Act.put, List.setIfInBounds_toArray, List.set_cons_zero, List.set_cons_succ]
        refine wpAnyH_take (i := 4) (oi := _) (v := _) (by simp only [List.getElem?_toArray, List.getElem?_cons_succ, List.getElem?_cons_zero]; rfl) (by kernel_rfl) (by kernel_rfl) (by kernel_rfl) (by exact fun _ _ _ h => h) (Or.inl ⟨by rfl, by intro w' hSw; (try dsimp only at hSw); first | (go_simp; done) | (go_simp; with_reducible rfl)⟩) hHeld ?_
        simp only [Act.put, List.setIfInBounds_toArray, List.set_cons_zero, List.set_cons_succ]
        refine wpAnyH_take (i := 5) (oi := _) (v := _) (by simp only [List.getElem?_toArray, List.getElem?_cons_succ, List.getElem?_cons_zero]; rfl) (by kernel_rfl) (by kernel_rfl) (by kernel_rfl) (by exact fun _ _ _ h => h) (Or.inl ⟨by rfl, by intro w' hSw; (try dsimp only at hSw); first | (go_simp; done) | (go_simp; with_reducible rfl)⟩) hHeld ?_
        simp only [Act.put, List.setIfInBounds_toArray, List.set_cons_zero, List.set_cons_succ]
        refine wpAnyH_take (i := 6) (oi := _) (v := _) (by simp only [List.getElem?_toArray, List.getElem?_cons_succ, List.getElem?_cons_zero]; rfl) (by kernel_rfl) (by kernel_rfl) (by kernel_rfl) (by exact fun _ _ _ h => h) (Or.inl ⟨by rfl, by intro w' hSw; (try dsimp only at hSw); first | (go_simp; done) | (go_simp; with_reducible rfl)⟩) hHeld ?_
        simp only [Act.put, List.setIfInBounds_toArray, List.set_cons_zero, List.set_cons_succ]
        refine wpAnyH_take (i := 7) (oi := _) (v := _) (by simp only [List.getElem?_toArray, List.getElem?_cons_succ, List.getElem?_cons_zero]; rfl) (by kernel_rfl) (by kernel_rfl) (by kernel_rfl) (by exact fun _ _ _ h => h) (Or.inl ⟨by rfl, by intro w' hSw; (try dsimp only at hSw); first | (go_simp; done) | (go_simp; with_reducible rfl)⟩) hHeld ?_
        simp only [Act.put, List.setIfInBounds_toArray, List.set_cons_zero, List.set_cons_succ]
        refine wpAnyH_take (i := 8) (oi := _) (v := _) (by simp only [List.getElem?_toArray, List.getElem?_cons_succ, List.getElem?_cons_zero]; rfl) (by kernel_rfl) (by kernel_rfl) (by kernel_rfl) (by exact fun _ _ _ h => h) (Or.inl ⟨by rfl, by intro w' hSw; (try dsimp only at hSw); first | (go_simp; done) | (go_simp; with_reducible rfl)⟩) hHeld ?_
        simp only [Act.put, List.setIfInBounds_toArray, List.set_cons_zero, List.set_cons_succ]
        refine wpAnyH_done (by kernel_rfl) ?_ _
        clear hHeld
        by_cases hxy : x = y
        · have HA : Hid (l.take (k + 1) = m.take (k + 1)) := HST.out hxy
          have hb2 : (x != y) = false := by rw [hxy]; simp
          clear HST HNE hxy
          go_wp2
          go_roundw
          case rel => exact ⟨k + 1, by omega, by go_num, HA.out, HB.out.drew⟩
          case measure => simp [intOf]; omega
        · have HA : Hid (decide (l = m) = false) := HNE.out hxy
          have hb2 : (x != y) = true := by simpa using hxy
          clear HST HNE hxy
          go_wp2
          go_ret
          exact ⟨by rw [HA.out]; rfl, HB.out.drew⟩
      · have HA : Hid (decide (l = m) = true) := by
          show _ = _
          rw [decide_eq_true_iff]
          have := HNO.out
          rw [List.take_of_length_le (by omega), List.take_of_length_le (by omega)] at this
          exact this
        clear HNO
        go_wp2
        go_ret
        exact ⟨by rw [HA.out]; rfl, HB.out⟩
  · have hq : (((l.length : Nat) : Int) == (m.length : Nat)) = false := by rw [beq_eq_false_iff_ne]; omega
    have hd : decide (l = m) = false := by rw [decide_eq_false_iff_not]; exact fun e => hlen (by rw [e])
    rw [hd]
    go_enter Try.func9, Try.ntmps9
    go_wp2
    go_ret
    exact ⟨rfl, Below.refl _ _⟩

end Go.Proofs.Ytgfbcekmnpdoeaa.Hdi
