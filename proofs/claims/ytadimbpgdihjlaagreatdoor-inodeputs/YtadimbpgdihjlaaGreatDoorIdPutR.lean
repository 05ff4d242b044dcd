/-
  The document's Put. No condition.
-/
import Derived.Test.YtadimbpgdihjlaaGreatDoorIdPut
namespace Go.Proofs.YtadimbpgdihjlaaGreatDoor.Id
open Go.ChangeShapes Go.WideShapes Go.ChangeAt Go.RowKit Go.Proofs.Fa
open Go.Proofs.YtadimbpgdihjlaaGreatDoor.Le (putF refput_any)
open Go.Proofs.YtadimbpgdihjlaaGreatDoor.Mk (sealS sealF refseal_any)

variable {w : World} {B : Nat}
set_option maxRecDepth 100000
set_option maxHeartbeats 4000000

theorem putR_no (ver : Int) (v : Value) (l : List Ext) (hr : RowR w B v l) (hn : l.length ≤ 1000) (hp : rightB ver l 2048 = false) :
    Calls Tryz.prog 8 #[ino ver v] w fun r w' => r = .returned (.tuple #[.string ByteArray.empty, .int .i64 1]) ∧ Below w.heap.size w w' := by
  obtain ⟨a, cap, rfl, hmx⟩ := row_slice hr
  have hri := refrightX_any (w := w.alloc (Obj.cells #[.int .i64 ver, .slice a l.length cap] 29)) ver (.slice a l.length cap) l 2048 (World.ownsRow.alloc hr _) hn
  have HB0 : Hid (Below w.heap.size w (w.alloc (Obj.cells #[.int .i64 ver, .slice a l.length cap] 29))) := (Below.refl _ _).alloc (Nat.le_refl _) _
  rw [hp] at hri
  simp only [ino] at hri ⊢
  generalize l.length = n at *
  clear hp hr hn hmx
  go_enter Tryz.func8, Tryz.ntmps8
  go_wp2_with fail
  refine hri.mono ?_
  rintro r w1 ⟨rfl, hb1⟩
  have HB1 : Hid (Below w.heap.size w w1) := HB0.out.trans (hb1.mono HB0.out.size)
  clear hb1 hri
  go_wp2
  go_ret2
  exact ⟨rfl, HB1.out⟩

theorem putR_yes (ver : Int) (v : Value) (l : List Ext) (hr : RowR w B v l) (hp : rightB ver l 2048 = true) :
    Calls Tryz.prog 8 #[ino ver v] w fun r w' => r = .returned (.tuple #[.string (sealS 6 (bodyI ver l)), .int .i64 0]) ∧ Below w.heap.size w w' := by
  obtain ⟨h0, h1, h36, hok⟩ := right_parts hp
  have hbz := bodyI_size hp
  obtain ⟨n, hln⟩ : ∃ n, l.length = n := ⟨_, rfl⟩
  obtain ⟨a, cap, rfl, hmx⟩ := row_slice hr
  have hri := refrightX_any (w := w.alloc (Obj.cells #[.int .i64 ver, .slice a l.length cap] 29)) ver (.slice a l.length cap) l 2048 (World.ownsRow.alloc hr _) (by omega)
  rw [hp] at hri
  rw [hln] at hri hmx ⊢
  rw [hln] at hr
  simp only [ino] at hri ⊢
  have HR : Hid (RowR w B (.slice a n cap) l) := hr
  have HOK : Hid (OkL l) := hok
  have HLN : Hid (l.length = n) := hln
  have HBB : Hid (bodyI ver l = partI ver l n) := by show _ = _; rw [← hln]; rfl
  have HPZ : Hid (∀ k, k ≤ n → (partI ver l k).size ≤ 504) := fun k hk => by
    have h := bytI_length h0 h1 h36 hok k (by omega)
    have hs : (partI ver l k).size = (bytI ver l k).length := by simp [partI, ByteArray.size]
    omega
  have HF2 : Hid (putF ver 6 ++ putF n 1 = partI ver l 0) := by show _ = _; rw [← partI_zero, hln]
  have hp1 := fun w => refput_any ver 6 w (by omega)
  have hp2 := fun w => refput_any n 1 w (by omega)
  have hq1 : (putF ver 6).size = 6 := by
    have := (numF_in [] ver 6 (by decide) (by decide) h0 (by show ver < 281474976710656; omega)).2
    simpa using this
  have hq2 : (putF n 1).size = 1 := by
    have := (numF_in [] n 1 (by decide) (by decide) (by omega) (by show (n : Int) < 256; omega)).2
    simpa using this
  have HSL : Hid (∀ w, Calls Tryz.prog 15 #[.int .i64 6, .string (bodyI ver l)] w fun e w' => e = .returned (.tuple #[.string (sealS 6 (bodyI ver l)), .int .i64 0]) ∧ Below w.heap.size w w') := fun w => by
    have h := refseal_any 6 (bodyI ver l) w (by unfold maxLen; omega)
    unfold sealF at h
    rw [if_pos (by decide), if_pos hbz] at h
    exact h
  have HB0 : Hid (Below w.heap.size w (w.alloc (Obj.cells #[.int .i64 ver, .slice a n cap] 29))) := (Below.refl _ _).alloc (Nat.le_refl _) _
  have HX0 : Hid ((w.alloc (Obj.cells #[.int .i64 ver, .slice a n cap] 29)).heap[w.heap.size]? = some (.cells #[.int .i64 ver, .slice a n cap] 29 (0, 0))) := heap_alloc_new _ _
  clear hp hr hok hln h0 h1
  go_enter Tryz.func8, Tryz.ntmps8
  go_wp2_with fail
  refine hri.mono ?_
  rintro r w1 ⟨rfl, hb1⟩
  have HB1 : Hid (Below w.heap.size w w1) := HB0.out.trans (hb1.mono HB0.out.size)
  have HX1 : Hid (w1.heap[w.heap.size]? = some (.cells #[.int .i64 ver, .slice a n cap] 29 (0, 0))) := (hb1.block _ (lt_of_heap HX0.out)).trans HX0.out
  clear hb1 hri HB0 HX0
  obtain ⟨c0, c1, _, _⟩ := agg2 HX1.out
  go_wp2_with fail
  refine wp_region_held_drew (S := fun W => W.cell? ⟨w.heap.size, 0, none⟩ = some (.int .i64 ver) ∧ W.cell? ⟨w.heap.size, 1, none⟩ = some (.slice a n cap)) (by kernel_rfl) (by exact ⟨c0, c1⟩) (fun hHeld => ?_)
  change wpAnyH _ _ _ _ _ 9 (Array.replicate 9 false) _ _
  refine wpAnyH_take (i := 0) (oi := _) (v := _) (by simp only [List.getElem?_toArray, List.getElem?_cons_zero]; rfl) (by kernel_rfl) (by kernel_rfl) (by kernel_rfl) (by exact fun _ _ _ h => h) (Or.inl ⟨by rfl, by intro w' hSw; (try dsimp only at hSw); first | (go_simp; done) | (go_simp; with_reducible rfl)⟩) hHeld ?_
  simp only [Act.put, List.setIfInBounds_toArray, List.set_cons_zero, List.set_cons_succ]
  refine wpAnyH_take (i := 1) (oi := _) (v := _) (by simp only [List.getElem?_toArray, List.getElem?_cons_succ, List.getElem?_cons_zero]; rfl) (by kernel_rfl) (by kernel_rfl) (by kernel_rfl) (by exact fun _ _ _ h => h) (Or.inl ⟨by rfl, by intro w' hSw; (try dsimp only at hSw); first | (go_simp; done) | (go_simp; with_reducible rfl)⟩) hHeld ?_
  simp only [Act.put, List.setIfInBounds_toArray, List.set_cons_zero, List.set_cons_succ]
  refine wpAnyH_take (i := 3) (oi := _) (v := _) (by simp only [List.getElem?_toArray, List.getElem?_cons_succ, List.getElem?_cons_zero]; rfl) (by kernel_rfl) (by kernel_rfl) (by kernel_rfl) (by exact fun _ _ _ h => h) (Or.inl ⟨by rfl, by intro w' hSw; (try dsimp only at hSw); first | (go_simp; done) | (go_simp; with_reducible rfl)⟩) hHeld ?_
  simp only [Act.put, List.setIfInBounds_toArray, List.set_cons_zero, List.set_cons_succ]
  refine wpAnyH_take (i := 4) (oi := _) (v := _) (by simp only [List.getElem?_toArray, List.getElem?_cons_succ, List.getElem?_cons_zero]; rfl) (by kernel_rfl) (by kernel_rfl) (by kernel_rfl) (by exact fun _ _ _ h => h) (Or.inl ⟨by rfl, by intro w' hSw; (try dsimp only at hSw); first | (go_simp; done) | (go_simp; with_reducible rfl)⟩) hHeld ?_
  simp only [Act.put, List.setIfInBounds_toArray, List.set_cons_zero, List.set_cons_succ]
  refine wpAnyH_take (i := 5) (oi := _) (v := _) (by simp only [List.getElem?_toArray, List.getElem?_cons_succ, List.getElem?_cons_zero]; rfl) (by kernel_rfl) (by kernel_rfl) (by kernel_rfl) (by exact fun _ _ _ h => h) (Or.inl ⟨by rfl, by intro w' hSw; (try dsimp only at hSw); first | (go_simp; done) | (go_simp; with_reducible rfl)⟩) hHeld ?_
  simp only [Act.put, List.setIfInBounds_toArray, List.set_cons_zero, List.set_cons_succ]
  refine wpAnyH_ready (rs := [2]) (by kernel_rfl) (by simp) ?_
  refine AllReadyH.cons rfl (fun K hK => ?_) AllReadyH.nil
  go_simp
  go_wp2_with fail
  refine (hp1 _).mono ?_
  rintro r w2 ⟨rfl, hb2⟩
  have HB2 : Hid (Below w.heap.size w w2) := HB1.out.drew.trans (hb2.mono HB1.out.drew.size)
  have HX2 : Hid (w2.heap[w.heap.size]? = some (.cells #[.int .i64 ver, .slice a n cap] 29 (0, 0))) := (hb2.block _ (lt_of_heap HX1.out)).trans HX1.out
  refine hK.out _ _ ⟨(hb2.cell (p := ⟨w.heap.size, 0, none⟩) (lt_of_cell hHeld.1)).trans hHeld.1, (hb2.cell (p := ⟨w.heap.size, 1, none⟩) (lt_of_cell hHeld.2)).trans hHeld.2⟩ (fun hHeld => ?_)
  clear hK K hb2
  refine wpAnyH_ready (rs := [6]) (by kernel_rfl) (by simp) ?_
  refine AllReadyH.cons rfl (fun K hK => ?_) AllReadyH.nil
  go_simp
  go_wp2_with fail
  refine (hp2 _).mono ?_
  rintro r w3 ⟨rfl, hb3⟩
  have HB3 : Hid (Below w.heap.size w w3) := HB2.out.trans (hb3.mono HB2.out.size)
  have HX3 : Hid (w3.heap[w.heap.size]? = some (.cells #[.int .i64 ver, .slice a n cap] 29 (0, 0))) := (hb3.block _ (lt_of_heap HX2.out)).trans HX2.out
  refine hK.out _ _ ⟨(hb3.cell (p := ⟨w.heap.size, 0, none⟩) (lt_of_cell hHeld.1)).trans hHeld.1, (hb3.cell (p := ⟨w.heap.size, 1, none⟩) (lt_of_cell hHeld.2)).trans hHeld.2⟩ (fun hHeld => ?_)
  clear hK K hb3
  refine wpAnyH_take (i := 7) (oi := _) (v := _) (by simp only [List.getElem?_toArray, List.getElem?_cons_succ, List.getElem?_cons_zero]; rfl) (by kernel_rfl) (by kernel_rfl) (by kernel_rfl) (by exact fun _ _ _ h => h) (Or.inl ⟨by rfl, by intro w' hSw; (try dsimp only at hSw); first | (go_simp; done) | (go_simp; with_reducible rfl)⟩) hHeld ?_
  simp only [Act.put, List.setIfInBounds_toArray, List.set_cons_zero, List.set_cons_succ]
  refine wpAnyH_take (i := 8) (oi := _) (v := _) (by simp only [List.getElem?_toArray, List.getElem?_cons_succ, List.getElem?_cons_zero]; rfl) (by kernel_rfl) (by kernel_rfl) (by kernel_rfl) (by exact fun _ _ _ h => h) (Or.inl ⟨by rfl, by intro w' hSw; (try dsimp only at hSw); first | (go_simp; done) | (go_simp; with_reducible rfl)⟩) hHeld ?_
  simp only [Act.put, List.setIfInBounds_toArray, List.set_cons_zero, List.set_cons_succ]
  refine wpAnyH_done (by kernel_rfl) ?_ _
  rw [HF2.out]
  clear hp1 hp2 hq1 hq2 HF2 HB1 HB2 HX1 HX2 c0 c1 hHeld
  go_wp2_with fail
  go_loopw [4, 5] (fun t i wr => ∃ k : Nat, k ≤ n ∧ i = .int .i64 k ∧ t = .string (partI ver l k) ∧ wr.heap[w.heap.size]? = some (.cells #[.int .i64 ver, .slice a n cap] 29 (0, 0)) ∧ Below w.heap.size w wr) (fun _ i _ => n - (intOf i).toNat)
  case atStart => exact ⟨0, Nat.zero_le _, rfl, rfl, HX3.out, HB3.out⟩
  case round =>
    clear HX3 HB3
    obtain ⟨k, hk, rfl, rfl, hX, hB'⟩ := hrel
    have HX : Hid (wr.heap[w.heap.size]? = some (.cells #[.int .i64 ver, .slice a n cap] 29 (0, 0))) := hX
    have HB : Hid (Below w.heap.size w wr) := hB'
    clear hX hB'
    obtain ⟨x0, x1, _, _⟩ := agg2 HX.out
    by_cases hlt : k < n
    · have hRk : RowR wr B _ l := row_below HR.out HB.out (Nat.le_refl _)
      obtain ⟨g, cap', he⟩ := row_some hRk (by rw [HLN.out]; omega)
      rw [HLN.out] at he
      cases he
      have hkl : k < l.length := by rw [HLN.out]; exact hlt
      obtain ⟨e0, e1⟩ := hRk.ext k hkl
      have hcap : n ≤ cap ∧ cap ≤ maxLen := by
        rcases hRk.2 with ⟨hx, _⟩ | ⟨g', cap', cur, hx, _, _, h6, h7, _⟩
        · cases hx
        · cases hx; rw [HLN.out] at h6; omega
      have hkc : (k : Int) ≤ cap := by omega
      have hok := HOK.out _ (List.getElem_mem hkl)
      have HSU : Hid (partI ver l k ++ (putF l[k].pos 2 ++ putF l[k].len 2) = partI ver l (k + 1)) := partI_succ ver l k hkl
      have hpz := HPZ.out k hk
      have hno : ¬ 9223372036854775807 < (partI ver l k).size + 4 := by omega
      clear hpz
      clear hRk
      generalize l[k] = y at *
      obtain ⟨yp, yl⟩ := y
      unfold Ok at hok
      dsimp only at e0 e1 hok HSU
      have hp1 := fun w => refput_any yp 2 w (by omega)
      have hp2 := fun w => refput_any yl 2 w (by omega)
      have hq1 : (putF yp 2).size = 2 := by
        have := (numF_in [] yp 2 (by decide) (by decide) hok.1 (by show yp < 65536; omega)).2
        simpa using this
      have hq2 : (putF yl 2).size = 2 := by
        have := (numF_in [] yl 2 (by decide) (by decide) (by omega) (by show yl < 65536; omega)).2
        simpa using this
      go_wp2_with fail
      refine wp_region_held_drew (S := fun W => W.cell? ⟨w.heap.size, 1, none⟩ = some (.slice (some ⟨g, 0, none⟩) n cap) ∧ W.cell? ⟨g, k * 2, none⟩ = some (.int .i64 yp) ∧ W.cell? ⟨g, k * 2 + 1, none⟩ = some (.int .i64 yl)) (by kernel_rfl) (by exact ⟨x1, e0, e1⟩) (fun hHeld => ?_)
      change wpAnyH _ _ _ _ _ 18 (Array.replicate 18 false) _ _
      refine wpAnyH_take (i := 0) (oi := _) (v := _) (by simp only [List.getElem?_toArray, List.getElem?_cons_zero]; rfl) (by kernel_rfl) (by kernel_rfl) (by kernel_rfl) (by exact fun _ _ _ h => h) (Or.inl ⟨by rfl, by intro w' hSw; (try dsimp only at hSw); first | (go_simp; done) | (go_simp; with_reducible rfl)⟩) hHeld ?_
      simp only [Act.put, List.setIfInBounds_toArray, List.set_cons_zero, List.set_cons_succ]
      refine wpAnyH_take (i := 1) (oi := _) (v := _) (by simp only [List.getElem?_toArray, List.getElem?_cons_succ, List.getElem?_cons_zero]; rfl) (by kernel_rfl) (by kernel_rfl) (by kernel_rfl) (by exact fun _ _ _ h => h) (Or.inl ⟨by rfl, by intro w' hSw; (try dsimp only at hSw); first | (go_simp; done) | (go_simp; with_reducible rfl)⟩) hHeld ?_
      simp only [Act.put, List.setIfInBounds_toArray, List.set_cons_zero, List.set_cons_succ]
      refine wpAnyH_take (i := 2) (oi := _) (v := _) (by simp only [List.getElem?_toArray, List.getElem?_cons_succ, List.getElem?_cons_zero]; rfl) (by kernel_rfl) (by kernel_rfl) (by kernel_rfl) (by exact fun _ _ _ h => h) (Or.inl ⟨by rfl, by intro w' hSw; (try dsimp only at hSw); first | (go_simp; done) | (go_simp; with_reducible rfl)⟩) hHeld ?_
      simp only [Act.put, List.setIfInBounds_toArray, List.set_cons_zero, List.set_cons_succ]
      refine wpAnyH_take (i := 3) (oi := _) (v := _) (by simp only [List.getElem?_toArray, List.getElem?_cons_succ, List.getElem?_cons_zero]; rfl) (by kernel_rfl) (by kernel_rfl) (by kernel_rfl) (by exact fun _ _ _ h => h) (Or.inl ⟨by rfl, by intro w' hSw; (try dsimp only at hSw); first | (go_simp; done) | (go_simp; with_reducible rfl)⟩) hHeld ?_
      simp only [Act.put, List.setIfInBounds_toArray, List.set_cons_zero, List.set_cons_succ]
      refine wpAnyH_take (i := 4) (oi := _) (v := _) (by simp only [List.getElem?_toArray, List.getElem?_cons_succ, List.getElem?_cons_zero]; rfl) (by kernel_rfl) (by kernel_rfl) (by kernel_rfl) (by exact fun _ _ _ h => h) (Or.inl ⟨by rfl, by intro w' hSw; (try dsimp only at hSw); first | (go_simp; done) | (go_simp; with_reducible rfl)⟩) hHeld ?_
      simp only [Act.put, List.setIfInBounds_toArray, List.set_cons_zero, List.set_cons_succ]
      refine wpAnyH_take (i := 5) (oi := _) (v := _) (by simp only [List.getElem?_toArray, List.getElem?_cons_succ, List.getElem?_cons_zero]; rfl) (by kernel_rfl) (by kernel_rfl) (by kernel_rfl) (by exact fun _ _ _ h => h) (Or.inl ⟨by rfl, by intro w' hSw; (try dsimp only at hSw); first | (go_simp; done) | (go_simp; with_reducible rfl)⟩) hHeld ?_
      simp only [Act.put, List.setIfInBounds_toArray, List.set_cons_zero, List.set_cons_succ]
      refine wpAnyH_take (i := 6) (oi := _) (v := _) (by simp only [List.getElem?_toArray, List.getElem?_cons_succ, List.getElem?_cons_zero]; rfl) (by kernel_rfl) (by kernel_rfl) (by kernel_rfl) (by exact fun _ _ _ h => h) (Or.inl ⟨by rfl, by intro w' hSw; (try dsimp only at hSw); first | (go_simp; done) | (go_simp; with_reducible rfl)⟩) hHeld ?_
      simp only [Act.put, List.setIfInBounds_toArray, List.set_cons_zero, List.set_cons_succ]
      refine wpAnyH_take (i := 8) (oi := _) (v := _) (by simp only [List.getElem?_toArray, List.getElem?_cons_succ, List.getElem?_cons_zero]; rfl) (by kernel_rfl) (by kernel_rfl) (by kernel_rfl) (by exact fun _ _ _ h => h) (Or.inl ⟨by rfl, by intro w' hSw; (try dsimp only at hSw); first | (go_simp; done) | (go_simp; with_reducible rfl)⟩) hHeld ?_
      simp only [Act.put, List.setIfInBounds_toArray, List.set_cons_zero, List.set_cons_succ]
      refine wpAnyH_take (i := 9) (oi := _) (v := _) (by simp only [List.getElem?_toArray, List.getElem?_cons_succ, List.getElem?_cons_zero]; rfl) (by kernel_rfl) (by kernel_rfl) (by kernel_rfl) (by exact fun _ _ _ h => h) (Or.inl ⟨by rfl, by intro w' hSw; (try dsimp only at hSw); first | (go_simp; done) | (go_simp; with_reducible rfl)⟩) hHeld ?_
      simp only [Act.put, List.setIfInBounds_toArray, List.set_cons_zero, List.set_cons_succ]
      refine wpAnyH_take (i := 10) (oi := _) (v := _) (by simp only [List.getElem?_toArray, List.getElem?_cons_succ, List.getElem?_cons_zero]; rfl) (by kernel_rfl) (by kernel_rfl) (by kernel_rfl) (by exact fun _ _ _ h => h) (Or.inl ⟨by rfl, by intro w' hSw; (try dsimp only at hSw); first | (go_simp; done) | (go_simp; with_reducible rfl)⟩) hHeld ?_
      simp only [Act.put, List.setIfInBounds_toArray, List.set_cons_zero, List.set_cons_succ]
      refine wpAnyH_take (i := 11) (oi := _) (v := _) (by simp only [List.getElem?_toArray, List.getElem?_cons_succ, List.getElem?_cons_zero]; rfl) (by kernel_rfl) (by kernel_rfl) (by kernel_rfl) (by exact fun _ _ _ h => h) (Or.inl ⟨by rfl, by intro w' hSw; (try dsimp only at hSw); first | (go_simp; done) | (go_simp; with_reducible rfl)⟩) hHeld ?_
      simp only [Act.put, List.setIfInBounds_toArray, List.set_cons_zero, List.set_cons_succ]
      refine wpAnyH_take (i := 12) (oi := _) (v := _) (by simp only [List.getElem?_toArray, List.getElem?_cons_succ, List.getElem?_cons_zero]; rfl) (by kernel_rfl) (by kernel_rfl) (by kernel_rfl) (by exact fun _ _ _ h => h) (Or.inl ⟨by rfl, by intro w' hSw; (try dsimp only at hSw); first | (go_simp; done) | (go_simp; with_reducible rfl)⟩) hHeld ?_
      simp only [Act.put, List.setIfInBounds_toArray, List.set_cons_zero, List.set_cons_succ]
      refine wpAnyH_take (i := 13) (oi := _) (v := _) (by simp only [List.getElem?_toArray, List.getElem?_cons_succ, List.getElem?_cons_zero]; rfl) (by kernel_rfl) (by kernel_rfl) (by kernel_rfl) (by exact fun _ _ _ h => h) (Or.inl ⟨by rfl, by intro w' hSw; (try dsimp only at hSw); first | (go_simp; done) | (go_simp; with_reducible rfl)⟩) hHeld ?_
      simp only [Act.put, List.setIfInBounds_toArray, List.set_cons_zero, List.set_cons_succ]
      refine wpAnyH_ready (rs := [7]) (by kernel_rfl) (by simp) ?_
      refine AllReadyH.cons rfl (fun K hK => ?_) AllReadyH.nil
      go_simp
      go_wp2_with fail
      refine (hp1 _).mono ?_
      rintro r w2 ⟨rfl, hb2⟩
      have HB2 : Hid (Below w.heap.size w w2) := HB.out.drew.trans (hb2.mono HB.out.drew.size)
      have HX2 : Hid (w2.heap[w.heap.size]? = some (.cells #[.int .i64 ver, .slice (some ⟨g, 0, none⟩) n cap] 29 (0, 0))) := (hb2.block _ (lt_of_heap HX.out)).trans HX.out
      refine hK.out _ _ ⟨(hb2.cell (p := ⟨w.heap.size, 1, none⟩) (lt_of_cell hHeld.1)).trans hHeld.1, (hb2.cell (p := ⟨g, k * 2, none⟩) (lt_of_cell hHeld.2.1)).trans hHeld.2.1, (hb2.cell (p := ⟨g, k * 2 + 1, none⟩) (lt_of_cell hHeld.2.2)).trans hHeld.2.2⟩ (fun hHeld => ?_)
      clear hK K hb2
      refine wpAnyH_ready (rs := [14]) (by kernel_rfl) (by simp) ?_
      refine AllReadyH.cons rfl (fun K hK => ?_) AllReadyH.nil
      go_simp
      go_wp2_with fail
      refine (hp2 _).mono ?_
      rintro r w3 ⟨rfl, hb3⟩
      have HB3 : Hid (Below w.heap.size w w3) := HB2.out.trans (hb3.mono HB2.out.size)
      have HX3 : Hid (w3.heap[w.heap.size]? = some (.cells #[.int .i64 ver, .slice (some ⟨g, 0, none⟩) n cap] 29 (0, 0))) := (hb3.block _ (lt_of_heap HX2.out)).trans HX2.out
      refine hK.out _ _ ⟨(hb3.cell (p := ⟨w.heap.size, 1, none⟩) (lt_of_cell hHeld.1)).trans hHeld.1, (hb3.cell (p := ⟨g, k * 2, none⟩) (lt_of_cell hHeld.2.1)).trans hHeld.2.1, (hb3.cell (p := ⟨g, k * 2 + 1, none⟩) (lt_of_cell hHeld.2.2)).trans hHeld.2.2⟩ (fun hHeld => ?_)
      clear hK K hb3
      refine wpAnyH_take (i := 15) (oi := _) (v := _) (by simp only [List.getElem?_toArray, List.getElem?_cons_succ, List.getElem?_cons_zero]; rfl) (by kernel_rfl) (by kernel_rfl) (by kernel_rfl) (by exact fun _ _ _ h => h) (Or.inl ⟨by rfl, by intro w' hSw; (try dsimp only at hSw); first | (go_simp; done) | (go_simp; with_reducible rfl)⟩) hHeld ?_
      simp only [Act.put, List.setIfInBounds_toArray, List.set_cons_zero, List.set_cons_succ]
      refine wpAnyH_take (i := 16) (oi := _) (v := _) (by simp only [List.getElem?_toArray, List.getElem?_cons_succ, List.getElem?_cons_zero]; rfl) (by kernel_rfl) (by kernel_rfl) (by kernel_rfl) (by exact fun _ _ _ h => h) (Or.inl ⟨by rfl, by intro w' hSw; (try dsimp only at hSw); first | (go_simp; done) | (go_simp; with_reducible rfl)⟩) hHeld ?_
      simp only [Act.put, List.setIfInBounds_toArray, List.set_cons_zero, List.set_cons_succ]
      refine wpAnyH_take (i := 17) (oi := _) (v := _) (by simp only [List.getElem?_toArray, List.getElem?_cons_succ, List.getElem?_cons_zero]; rfl) (by kernel_rfl) (by kernel_rfl) (by kernel_rfl) (by exact fun _ _ _ h => h) (Or.inl ⟨by rfl, by intro w' hSw; (try dsimp only at hSw); first | (go_simp; done) | (go_simp; with_reducible rfl)⟩) hHeld ?_
      simp only [Act.put, List.setIfInBounds_toArray, List.set_cons_zero, List.set_cons_succ]
      refine wpAnyH_done (by kernel_rfl) ?_ _
      rw [HSU.out]
      go_wp2
      go_roundw
      case rel => exact ⟨k + 1, by omega, by go_num, rfl, HX3.out, HB3.out⟩
      case measure => simp [intOf]; omega
    · obtain rfl : k = n := by omega
      have hsl := HSL.out
      rw [HBB.out] at hsl
      go_wp2_with fail
      refine (hsl _).mono ?_
      rintro r w7 ⟨rfl, hb7⟩
      have HB7 : Hid (Below w.heap.size w w7) := HB.out.trans (hb7.mono HB.out.size)
      clear hb7
      go_wp2
      go_ret2
      exact ⟨by rw [HBB.out]; rfl, HB7.out⟩

end Go.Proofs.YtadimbpgdihjlaaGreatDoor.Id
