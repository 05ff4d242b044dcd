/-
  NvmeOrders: reads and writes of sectors that aren't the same find and leave the same, in whatever order they are completed. No condition.
-/
import Derived.Test.YtkfphmhnaelflaaNvSp
import Derived.Test.YtkfphmhnaelflaaNvActs
import Derived.Test.YtkfphmhnaelflaaNvO
import Derived.Test.YtkfphmhnaelflaaNvEq8
import Derived.Laws.DeepStrings4
namespace Go.Proofs.Ytkfphmhnaelflaa.Nv
open Go.ChangeShapes Go.WideShapes Go.ChangeAt Go.RowKit Go.Proofs.Fa

/-- The first bytes of a text, as a sector's data. -/
def cutB (x : ByteArray) : ByteArray := fullB (x.extract 0 (min x.size 20))
theorem cutB_size (x : ByteArray) : (cutB x).size = 512 := fullB_size _ (by rw [ByteArray.size_extract]; omega)
def kindO (x : Int) : Int := if bits BinOp.and .i64 x 1 = 1 then 3 else 2
def cmdO (L : Nat → Act6) (i : Nat) : Cmd := ⟨kindO (L i).kind, i, cutB (L i).data, 0⟩
def subD (L : Nat → Act6) (k : Nat) : Dev := { newD 8 8 with waiting := (List.range k).map (cmdO L) }
/-- What each sector is to have. -/
def dueO (L : Nat → Act6) (n : Nat) (s : Int) : ByteArray := if s.toNat < n then cutB (L s.toNat).data else Zs.zstr 512

theorem kindO_w (x : Int) : kindO x = 2 ∨ kindO x = 3 := by unfold kindO; split <;> simp
theorem cmdO_w (L : Nat → Act6) (i : Nat) : isW (cmdO L i) = true := by
  have := kindO_w (L i).kind
  unfold isW cmdO
  rcases this with h | h <;> simp [h]
theorem subD_ok (L : Nat → Act6) (k : Nat) (hk : k ≤ 8) : Ok (subD L k) := by
  refine ⟨by simp [subD, newD], by simp [subD, newD], fun c hc => (by cases hc), fun c hc => ?_, by simp [subD]; omega, by simp [subD, newD]⟩
  obtain ⟨i, hi, rfl⟩ := List.mem_map.1 hc
  have hi' := List.mem_range.1 hi
  have h2 := kindO_w (L i).kind
  have hl : ((subD L k).lasting.length : Int) = 8 := by simp [subD, newD]
  rw [hl]
  simp only [cmdO]
  omega
theorem subD_step (L : Nat → Act6) (k : Nat) (hk : k < 8) : submitN (subD L k) (cmdO L k) = 0 ∧ submitF (subD L k) (cmdO L k) = subD L (k + 1) := by
  have h := submit_write (d := subD L k) (c := cmdO L k) (cmdO_w L k) rfl ⟨by simp [cmdO], by simp [cmdO, subD, newD]; omega⟩ (cutB_size _) (by simp [subD, newD]; omega)
  refine ⟨h.1, h.2.trans ?_⟩
  unfold subD
  simp [List.range_succ]
theorem subD_due (L : Nat → Act6) (n : Nat) (hn : n ≤ 8) : Due (dueO L n) (subD L n) := by
  refine ⟨rfl, rfl, rfl, by simp [subD, newD], fun c hc => (by cases hc), by simp [subD, newD]; omega, ?_, ?_, ?_⟩
  · intro c hc
    obtain ⟨i, hi, rfl⟩ := List.mem_map.1 hc
    have hi' := List.mem_range.1 hi
    refine ⟨cmdO_w L i, by simp [cmdO], by simp [cmdO]; omega, ?_⟩
    simp [cmdO, dueO, hi']
  · show (((List.range n).map (cmdO L)).map Cmd.sector).Nodup
    rw [List.map_map]
    show List.Pairwise (· ≠ ·) _
    rw [List.pairwise_map]
    have hp : List.Pairwise (· ≠ ·) (List.range n) := List.nodup_range
    exact hp.imp (fun {a b} h e => h (by
      have e' : ((a : Nat) : Int) = ((b : Nat) : Int) := e
      omega))
  · intro s s0 s8
    by_cases hs : s.toNat < n
    · left
      show s ∈ ((List.range n).map (cmdO L)).map Cmd.sector
      rw [List.map_map]
      exact List.mem_map.2 ⟨s.toNat, List.mem_range.2 hs, by simp [cmdO]; omega⟩
    · right
      unfold dueO
      rw [if_neg hs]
      show findL (List.replicate 8 (Zs.zstr 512)) [] s = _
      rw [find_none (fun c hc => by cases hc), List.getElem?_replicate, if_pos (by omega)]
      rfl

theorem dueO_size (L : Nat → Act6) (n : Nat) (s : Int) : (dueO L n s).size ≤ maxLen := by
  unfold dueO
  split
  · rw [cutB_size]; unfold maxLen; decide
  · rw [Zs.zstr_size]; unfold maxLen; decide
/-- The two rows of what was found, up to a place. -/
def foundC (D : Int → ByteArray) (m : Nat) : Array Value := ((List.range 16).map (fun p => if p < m then Value.string (D (p % 8 : Nat)) else Value.string ⟨#[]⟩)).toArray
theorem found_size (D : Int → ByteArray) (m : Nat) : (foundC D m).size = 16 := by simp [foundC]
theorem found_set (D : Int → ByteArray) (m : Nat) (hm : m < 16) : (foundC D m).setIfInBounds m (.string (D (m % 8 : Nat))) = foundC D (m + 1) := by
  apply Array.ext
  · simp [foundC]
  · intro i h1 h2
    have hi : i < 16 := by simpa [foundC] using h2
    by_cases him : i = m
    · subst him
      simp [foundC]
    · rw [Array.getElem_setIfInBounds_ne (by simpa [foundC] using hi) (fun e => him e.symm)]
      simp only [foundC, List.getElem_toArray, List.getElem_map, List.getElem_range]
      by_cases h : i < m
      · rw [if_pos h, if_pos (by omega)]
      · rw [if_neg h, if_neg (by omega)]

theorem Lives.setLow {B : Nat} {w : World} {b : Nat} {d : Dev} (h : Lives B w b d) (z i : Nat) (v : Value) (hz : z < B) : Lives B (w.setCell ⟨z, i, none⟩ v) b d := by
  obtain ⟨vl, vc, vw, vk, h⟩ := h
  refine ⟨vl, vc, vw, vk, (h.turn (turn_set w z i v) (fun k hk e => ?_)).grow (fun k hk => ⟨hk.1, by simpa using hk.2⟩) (fun k hk => hk.2)⟩
  have := hk.1
  omega

theorem modn (x : Int) (n : Nat) (h0 : 0 < n) (h8 : n ≤ 8) : ∃ KK : Nat, (wrap64 (x.tmod n + n)).tmod n = (KK : Int) ∧ (IntKind.i64.wrap (x.tmod n + n)).tmod n = (KK : Int) ∧ KK < n := by
  have h1 : x.tmod n < n := Int.tmod_lt_of_pos x (by omega)
  have h2 : -(n : Int) < x.tmod n := Int.lt_tmod_of_pos x (by omega)
  have e1 : wrap64 (x.tmod n + n) = x.tmod n + n := by unfold wrap64; omega
  have e2 : IntKind.i64.wrap (x.tmod n + n) = x.tmod n + n := by rw [IntKind.wrap_i64]; omega
  have h3 : 0 ≤ (x.tmod n + n).tmod n := Int.tmod_nonneg _ (by omega)
  have h4 : (x.tmod n + n).tmod n < n := Int.tmod_lt_of_pos _ (by omega)
  exact ⟨((x.tmod n + n).tmod n).toNat, by rw [e1]; omega, by rw [e2]; omega, by omega⟩

set_option maxRecDepth 100000
set_option maxHeartbeats 40000000

theorem nvmeOrders_walk (a0 : Option Addr) (len0 cap0 : Nat) (L : Nat → Act6) (a1 : Option Addr) (len1 cap1 : Nat) (L1 : Nat → Int) (w : World) (h0 : ActsAt w a0 len0 L) (h1 : CellsAt w a1 len1 (fun i => .int .i64 (L1 i))) (hw1 : ∀ i, i < len1 → (Lit.int .i64 (L1 i)).wf = true) (hl0 : len0 ≤ maxLen) (hl1 : len1 ≤ maxLen) :
    Calls Try.prog 3 #[.slice a0 len0 cap0, .slice a1 len1 cap1] w fun e w' => e = .returned (.bool true) ∧ Below w.heap.size w w' := by
  have H0 : Hid (ActsAt w a0 len0 L) := h0
  have H1 : Hid (CellsAt w a1 len1 (fun i => .int .i64 (L1 i))) := h1
  have HW1 : Hid (∀ i, i < len1 → (Lit.int .i64 (L1 i)).wf = true) := hw1
  clear h0 h1 hw1
  unfold maxLen at hl0 hl1
  obtain ⟨D, hD⟩ : ∃ D, D = dueO L (min len0 8) := ⟨_, rfl⟩
  have HDD : Hid (D = dueO L (min len0 8)) := hD
  clear hD
  go_enter Try.func3, Try.ntmps3
  go_wp2_with fail
  refine (speaks_any w).mono ?_
  rintro e w1 ⟨rfl, hb1⟩
  have HB1 : Hid (Below w.heap.size w w1) := hb1
  clear hb1
  go_wp2
  go_loopw [6] (fun t wr => ∃ k : Nat, k ≤ 2 ∧ t = .int .i64 k ∧ wr.heap[w1.heap.size]? = some (.cells (foundC D (k * 8)) 26 (0, 0)) ∧ Below w1.heap.size w1 wr) (fun t _ => 2 - (intOf t).toNat)
  case atStart => exact ⟨0, by decide, rfl, heap_alloc_new _ _, (Below.refl _ _).alloc (Nat.le_refl _) _⟩
  case round =>
    obtain ⟨k, hk, rfl, hfo, hb⟩ := hrel
    obtain ⟨wo, rfl⟩ : ∃ wo, wo = wr := ⟨_, rfl⟩
    have HFO : Hid (wo.heap[w1.heap.size]? = some (.cells (foundC D (k * 8)) 26 (0, 0))) := hfo
    have HB : Hid (Below w1.heap.size w1 wo) := hb
    have HW : Hid (Below w.heap.size w wo) := HB1.out.trans (hb.mono HB1.out.size)
    clear hfo hb
    by_cases hlt : k < 2
    · go_wp2_with fail
      refine (new_any 8 8 (by decide) (by decide) (by decide) (by decide) wo).mono ?_
      rintro e w2 ⟨b, rfl, hd2, hb2⟩
      have HD2 : Hid (Lives wo.heap.size w2 b (subD L 0)) := hd2
      have HB2 : Hid (Below wo.heap.size wo w2) := hb2
      clear hd2 hb2
      go_wp2
      go_loopw [9, 10] (fun nv iv wr => ∃ j : Nat, (j ≤ 8 ∧ j ≤ len0) ∧ nv = .int .i64 j ∧ iv = .int .i64 j ∧ Lives wo.heap.size wr b (subD L j) ∧ Below wo.heap.size wo wr) (fun _ i _ => 8 - (intOf i).toNat)
      case atStart => exact ⟨0, ⟨by decide, Nat.zero_le _⟩, rfl, rfl, HD2.out, HB2.out⟩
      case round =>
        clear HD2 HB2
        obtain ⟨j, ⟨hj8, hjl⟩, rfl, rfl, hd, hb⟩ := hrel
        obtain ⟨wi, rfl⟩ : ∃ wi, wi = wr := ⟨_, rfl⟩
        have HD : Hid (Lives wo.heap.size wi b (subD L j)) := hd
        have HBi : Hid (Below wo.heap.size wo wi) := hb
        clear hd hb
        by_cases hjlt : j < len0 ∧ j < 8
        · obtain ⟨hj1, hj2⟩ := hjlt
          have HWi : Hid (Below w.heap.size w wi) := HW.out.trans (HBi.out.mono HW.out.size)
          obtain ⟨b0, off0, rfl, hb0, hc0⟩ : ∃ b0 off0, a0 = some ⟨b0, off0, none⟩ ∧ b0 < w.heap.size ∧ ∀ i, i < len0 → ActCells w b0 (off0 + i * 6) (L i) := by
            rcases H0.out.1 with h | h
            · omega
            · exact h
          obtain ⟨_, ck, _, cd, _, _⟩ := (hc0 j hj1).below HWi.out hb0
          have HKD : Hid (cmdO L j = ⟨kindO (L j).kind, j, cutB (L j).data, 0⟩) := rfl
          have hxs : (L j).data.size ≤ 9223372036854775807 := by have := (H0.out.2 j hj1).2.2.1; unfold maxLen at this; omega
          have hSt := subD_step L j hj2
          have hOk := subD_ok L j hj8
          clear hc0
          obtain ⟨x, hx⟩ : ∃ x, (L j).data = x := ⟨_, rfl⟩
          obtain ⟨kx, hkx⟩ : ∃ kx, (L j).kind = kx := ⟨_, rfl⟩
          rw [hx] at HKD cd hxs
          rw [hkx] at HKD ck
          clear hx hkx
          obtain ⟨m, hm⟩ : ∃ m : Nat, m = min x.size 20 := ⟨_, rfl⟩
          have hm1 : (if (20 : Int) < (x.size : Int) then (20 : Int) else (x.size : Int)) = (m : Int) := by split <;> omega
          have hm2 : min (x.size : Int) 20 = (m : Int) := by omega
          have hmx : m ≤ x.size := by omega
          have hm20 : m ≤ 20 := by omega
          have HCUT : Hid (fullB (x.extract 0 m) = cutB x) := by show _ = _; rw [hm]; rfl
          have hy : (x.extract 0 m).size ≤ 20 := by rw [ByteArray.size_extract]; omega
          clear hm
          by_cases hbit : bits BinOp.and .i64 kx 1 = 1
          · have hKK : kindO kx = 3 := by unfold kindO; rw [if_pos hbit]
            rw [HKD.out, hKK] at hSt
            have HST : Hid (submitN (subD L j) ⟨3, j, cutB x, 0⟩ = 0 ∧ submitF (subD L j) ⟨3, j, cutB x, 0⟩ = subD L (j + 1)) := hSt
            have HOK : Hid (Ok (subD L j)) := hOk
            clear hSt hOk HKD hKK
            go_wp2_with fail
            refine wp_region_held_drew (S := fun W => W.cell? ⟨b0, off0 + j * 6 + 3, none⟩ = some (.string x)) (by kernel_rfl) (by exact cd) (fun hHeld => ?_)
            change wpAnyH _ _ _ _ _ 20 (Array.replicate 20 false) _ _
            refine wpAnyH_take (i := 0) (oi := _) (v := _) (by simp only [List.getElem?_toArray, List.getElem?_cons_zero]; rfl) (by kernel_rfl) (by kernel_rfl) (by kernel_rfl) (by exact fun _ _ _ h => h) (Or.inl ⟨by rfl, by intro w' hSw; (try dsimp only at hSw); first | (go_simp; done) | (go_simp; with_reducible rfl)⟩) hHeld ?_
            simp only [Act.put, List.setIfInBounds_toArray, List.set_cons_zero, List.set_cons_succ]
            refine wpAnyH_take (i := 1) (oi := _) (v := _) (by simp only [List.getElem?_toArray, List.getElem?_cons_succ, List.getElem?_cons_zero]; rfl) (by kernel_rfl) (by kernel_rfl) (by kernel_rfl) (by exact fun _ _ _ h => h) (Or.inl ⟨by rfl, by intro w' hSw; (try dsimp only at hSw); first | (go_simp; done) | (go_simp; with_reducible rfl)⟩) hHeld ?_
            simp only [Act.put, List.setIfInBounds_toArray, List.set_cons_zero, List.set_cons_succ]
            refine wpAnyH_take (i := 2) (oi := _) (v := _) (by simp only [List.getElem?_toArray, List.getElem?_cons_succ, List.getElem?_cons_zero]; rfl) (by kernel_rfl) (by kernel_rfl) (by kernel_rfl) (by exact fun _ _ _ h => h) (Or.inl ⟨by rfl, by intro w' hSw; (try dsimp only at hSw); first | (go_simp; done) | (go_simp; with_reducible rfl)⟩) hHeld ?_
            simp only [Act.put, List.setIfInBounds_toArray, List.set_cons_zero, List.set_cons_succ]
            refine wpAnyH_take (i := 3) (oi := _) (v := _) (by simp only [List.getElem?_toArray, List.getElem?_cons_succ, List.getElem?_cons_zero]; rfl) (by kernel_rfl) (by kernel_rfl) (by kernel_rfl) (by exact fun _ _ _ h => h) (Or.inl ⟨by rfl, by intro w' hSw; (try dsimp only at hSw); first | (go_simp; done) | (go_simp; with_reducible rfl)⟩) hHeld ?_
            simp only [Act.put, List.setIfInBounds_toArray, List.set_cons_zero, List.set_cons_succ]
            refine wpAnyH_take (i := 4) (oi := _) (v := _) (by simp only [List.getElem?_toArray, List.getElem?_cons_succ, List.getElem?_cons_zero]; rfl) (by kernel_rfl) (by kernel_rfl) (by kernel_rfl) (by exact fun _ _ _ h => h) (Or.inl ⟨by rfl, by intro w' hSw; (try dsimp only at hSw); first | (go_simp; done) | (go_simp; with_reducible rfl)⟩) hHeld ?_
            simp only [Act.put, List.setIfInBounds_toArray, List.set_cons_zero, List.set_cons_succ]
            refine wpAnyH_take (i := 5) (oi := _) (v := _) (by simp only [List.getElem?_toArray, List.getElem?_cons_succ, List.getElem?_cons_zero]; rfl) (by kernel_rfl) (by kernel_rfl) (by kernel_rfl) (by exact fun _ _ _ h => h) (Or.inl ⟨by rfl, by intro w' hSw; (try dsimp only at hSw); first | (go_simp; done) | (go_simp; with_reducible rfl)⟩) hHeld ?_
            simp only [Act.put, List.setIfInBounds_toArray, List.set_cons_zero, List.set_cons_succ]
            refine wpAnyH_take (i := 6) (oi := _) (v := _) (by simp only [List.getElem?_toArray, List.getElem?_cons_succ, List.getElem?_cons_zero]; rfl) (by kernel_rfl) (by kernel_rfl) (by kernel_rfl) (by exact fun _ _ _ h => h) (Or.inl ⟨by rfl, by intro w' hSw; (try dsimp only at hSw); first | (go_simp; done) | (go_simp; with_reducible rfl)⟩) hHeld ?_
            simp only [Act.put, List.setIfInBounds_toArray, List.set_cons_zero, List.set_cons_succ]
            refine wpAnyH_take (i := 7) (oi := _) (v := _) (by simp only [List.getElem?_toArray, List.getElem?_cons_succ, List.getElem?_cons_zero]; rfl) (by kernel_rfl) (by kernel_rfl) (by kernel_rfl) (by exact fun _ _ _ h => h) (Or.inl ⟨by rfl, by intro w' hSw; (try dsimp only at hSw); first | (go_simp; done) | (go_simp; with_reducible rfl)⟩) hHeld ?_
            simp only [Act.put, List.setIfInBounds_toArray, List.set_cons_zero, List.set_cons_succ]
            refine wpAnyH_take (i := 8) (oi := _) (v := _) (by simp only [List.getElem?_toArray, List.getElem?_cons_succ, List.getElem?_cons_zero]; rfl) (by kernel_rfl) (by kernel_rfl) (by kernel_rfl) (by exact fun _ _ _ h => h) (Or.inl ⟨by rfl, by intro w' hSw; (try dsimp only at hSw); first | (go_simp; done) | (go_simp; with_reducible rfl)⟩) hHeld ?_
            simp only [Act.put, List.setIfInBounds_toArray, List.set_cons_zero, List.set_cons_succ]
            refine wpAnyH_take (i := 9) (oi := _) (v := _) (by simp only [List.getElem?_toArray, List.getElem?_cons_succ, List.getElem?_cons_zero]; rfl) (by kernel_rfl) (by kernel_rfl) (by kernel_rfl) (by exact fun _ _ _ h => h) (Or.inl ⟨by rfl, by intro w' hSw; (try dsimp only at hSw); first | (go_simp; done) | (go_simp; with_reducible rfl)⟩) hHeld ?_
            simp only [Act.put, List.setIfInBounds_toArray, List.set_cons_zero, List.set_cons_succ]
            refine wpAnyH_take (i := 10) (oi := _) (v := _) (by simp only [List.getElem?_toArray, List.getElem?_cons_succ, List.getElem?_cons_zero]; rfl) (by kernel_rfl) (by kernel_rfl) (by kernel_rfl) (by exact fun _ _ _ h => h) (Or.inl ⟨by rfl, by intro w' hSw; (try dsimp only at hSw); first | (go_simp; done) | (go_simp; with_reducible rfl)⟩) hHeld ?_
            simp only [Act.put, List.setIfInBounds_toArray, List.set_cons_zero, List.set_cons_succ]
            refine wpAnyH_take (i := 11) (oi := _) (v := _) (by simp only [List.getElem?_toArray, List.getElem?_cons_succ, List.getElem?_cons_zero]; rfl) (by kernel_rfl) (by kernel_rfl) (by kernel_rfl) (by exact fun _ _ _ h => h) (Or.inl ⟨by rfl, by intro w' hSw; (try dsimp only at hSw); first | (go_simp; done) | (go_simp; with_reducible rfl)⟩) hHeld ?_
            simp only [Act.put, List.setIfInBounds_toArray, List.set_cons_zero, List.set_cons_succ]
            refine wpAnyH_take (i := 12) (oi := _) (v := _) (by simp only [List.getElem?_toArray, List.getElem?_cons_succ, List.getElem?_cons_zero]; rfl) (by kernel_rfl) (by kernel_rfl) (by kernel_rfl) (by exact fun _ _ _ h => h) (Or.inl ⟨by rfl, by intro w' hSw; (try dsimp only at hSw); first | (go_simp; done) | (go_simp; with_reducible rfl)⟩) hHeld ?_
            simp only [Act.put, List.setIfInBounds_toArray, List.set_cons_zero, List.set_cons_succ]
            refine wpAnyH_take (i := 13) (oi := _) (v := _) (by simp only [List.getElem?_toArray, List.getElem?_cons_succ, List.getElem?_cons_zero]; rfl) (by kernel_rfl) (by kernel_rfl) (by kernel_rfl) (by exact fun _ _ _ h => h) (Or.inl ⟨by rfl, by intro w' hSw; (try dsimp only at hSw); first | (go_simp; done) | (go_simp; with_reducible rfl)⟩) hHeld ?_
            simp only [Act.put, List.setIfInBounds_toArray, List.set_cons_zero, List.set_cons_succ]
            refine wpAnyH_take (i := 14) (oi := _) (v := _) (by simp only [List.getElem?_toArray, List.getElem?_cons_succ, List.getElem?_cons_zero]; rfl) (by kernel_rfl) (by kernel_rfl) (by kernel_rfl) (by exact fun _ _ _ h => h) (Or.inl ⟨by rfl, by intro w' hSw; (try dsimp only at hSw); first | (go_simp; done) | (go_simp; with_reducible rfl)⟩) hHeld ?_
            simp only [Act.put, List.setIfInBounds_toArray, List.set_cons_zero, List.set_cons_succ]
            refine wpAnyH_take (i := 15) (oi := _) (v := _) (by simp only [List.getElem?_toArray, List.getElem?_cons_succ, List.getElem?_cons_zero]; rfl) (by kernel_rfl) (by kernel_rfl) (by kernel_rfl) (by exact fun _ _ _ h => h) (Or.inl ⟨by rfl, by intro w' hSw; (try dsimp only at hSw); first | (go_simp; done) | (go_simp; with_reducible rfl)⟩) hHeld ?_
            simp only [Act.put, List.setIfInBounds_toArray, List.set_cons_zero, List.set_cons_succ]
            refine wpAnyH_ready (rs := [16]) (by kernel_rfl) (by simp) ?_
            refine AllReadyH.cons rfl (fun K hK => ?_) AllReadyH.nil
            go_simp
            go_wp2_with fail
            refine (full_any _ hy _).mono ?_
            rintro r w3 ⟨rfl, hb3⟩
            rw [HCUT.out]
            have HD3 : Hid (Lives wo.heap.size w3 b (subD L j)) := HD.out.below (w' := w3) ⟨hb3.os, hb3.tape, hb3.output, hb3.size, hb3.block⟩
            have HB3 : Hid (Below wo.heap.size wo w3) := HBi.out.trans (Below.mono (B := wi.heap.size) ⟨hb3.os, hb3.tape, hb3.output, hb3.size, hb3.block⟩ HBi.out.size)
            refine hK.out _ _ ((hb3.cell (p := ⟨b0, off0 + j * 6 + 3, none⟩) (Nat.lt_of_lt_of_le hb0 HWi.out.size)).trans hHeld) (fun hHeld => ?_)
            clear hK K
            refine wpAnyH_take (i := 17) (oi := _) (v := _) (by simp only [List.getElem?_toArray, List.getElem?_cons_succ, List.getElem?_cons_zero]; rfl) (by kernel_rfl) (by kernel_rfl) (by kernel_rfl) (by exact fun _ _ _ h => h) (Or.inl ⟨by rfl, by intro w' hSw; (try dsimp only at hSw); first | (go_simp; done) | (go_simp; with_reducible rfl)⟩) hHeld ?_
            simp only [Act.put, List.setIfInBounds_toArray, List.set_cons_zero, List.set_cons_succ]
            refine wpAnyH_ready (rs := [18]) (by kernel_rfl) (by simp) ?_
            refine AllReadyH.cons rfl (fun K hK => ?_) AllReadyH.nil
            go_simp
            go_wp2_with fail
            refine (live_submit ⟨3, j, cutB x, 0⟩ HD3.out HOK.out HB3.out.size).mono ?_
            rintro r w4 ⟨rfl, hd4, hb4⟩
            rw [HST.out.1, errV_0]
            rw [HST.out.2] at hd4
            have HD4 : Hid (Lives wo.heap.size w4 b (subD L (j + 1))) := hd4
            have HB4 : Hid (Below wo.heap.size wo w4) := HB3.out.trans hb4
            refine hK.out _ _ ?hold (fun hHeld => ?_)
            case hold => exact (hb4.cell (p := ⟨b0, off0 + j * 6 + 3, none⟩) (Nat.lt_of_lt_of_le hb0 HW.out.size)).trans hHeld
            clear hK K hd4 hb4
            refine wpAnyH_take (i := 19) (oi := _) (v := _) (by simp only [List.getElem?_toArray, List.getElem?_cons_succ, List.getElem?_cons_zero]; rfl) (by kernel_rfl) (by kernel_rfl) (by kernel_rfl) (by exact fun _ _ _ h => h) (Or.inl ⟨by rfl, by intro w' hSw; (try dsimp only at hSw); first | (go_simp; done) | (go_simp; with_reducible rfl)⟩) hHeld ?_
            simp only [Act.put, List.setIfInBounds_toArray, List.set_cons_zero, List.set_cons_succ]
            refine wpAnyH_done (by kernel_rfl) ?_ _
            clear hHeld
            go_wp2
            go_roundw
            case rel => exact ⟨j + 1, ⟨by omega, by omega⟩, by go_num, by go_num, HD4.out, HB4.out⟩
            case measure => simp [intOf]; omega
          · have hKK : kindO kx = 2 := by unfold kindO; rw [if_neg hbit]
            have hbit2 : (bits BinOp.and IntKind.i64 kx 1 == 1) = false := by simpa using hbit
            rw [HKD.out, hKK] at hSt
            have HST : Hid (submitN (subD L j) ⟨2, j, cutB x, 0⟩ = 0 ∧ submitF (subD L j) ⟨2, j, cutB x, 0⟩ = subD L (j + 1)) := hSt
            have HOK : Hid (Ok (subD L j)) := hOk
            clear hSt hOk HKD hKK
            go_wp2_with fail
            refine wp_region_held_drew (S := fun W => W.cell? ⟨b0, off0 + j * 6 + 3, none⟩ = some (.string x)) (by kernel_rfl) (by exact cd) (fun hHeld => ?_)
            change wpAnyH _ _ _ _ _ 20 (Array.replicate 20 false) _ _
            refine wpAnyH_take (i := 0) (oi := _) (v := _) (by simp only [List.getElem?_toArray, List.getElem?_cons_zero]; rfl) (by kernel_rfl) (by kernel_rfl) (by kernel_rfl) (by exact fun _ _ _ h => h) (Or.inl ⟨by rfl, by intro w' hSw; (try dsimp only at hSw); first | (go_simp; done) | (go_simp; with_reducible rfl)⟩) hHeld ?_
            simp only [Act.put, List.setIfInBounds_toArray, List.set_cons_zero, List.set_cons_succ]
            refine wpAnyH_take (i := 1) (oi := _) (v := _) (by simp only [List.getElem?_toArray, List.getElem?_cons_succ, List.getElem?_cons_zero]; rfl) (by kernel_rfl) (by kernel_rfl) (by kernel_rfl) (by exact fun _ _ _ h => h) (Or.inl ⟨by rfl, by intro w' hSw; (try dsimp only at hSw); first | (go_simp; done) | (go_simp; with_reducible rfl)⟩) hHeld ?_
            simp only [Act.put, List.setIfInBounds_toArray, List.set_cons_zero, List.set_cons_succ]
            refine wpAnyH_take (i := 2) (oi := _) (v := _) (by simp only [List.getElem?_toArray, List.getElem?_cons_succ, List.getElem?_cons_zero]; rfl) (by kernel_rfl) (by kernel_rfl) (by kernel_rfl) (by exact fun _ _ _ h => h) (Or.inl ⟨by rfl, by intro w' hSw; (try dsimp only at hSw); first | (go_simp; done) | (go_simp; with_reducible rfl)⟩) hHeld ?_
            simp only [Act.put, List.setIfInBounds_toArray, List.set_cons_zero, List.set_cons_succ]
            refine wpAnyH_take (i := 3) (oi := _) (v := _) (by simp only [List.getElem?_toArray, List.getElem?_cons_succ, List.getElem?_cons_zero]; rfl) (by kernel_rfl) (by kernel_rfl) (by kernel_rfl) (by exact fun _ _ _ h => h) (Or.inl ⟨by rfl, by intro w' hSw; (try dsimp only at hSw); first | (go_simp; done) | (go_simp; with_reducible rfl)⟩) hHeld ?_
            simp only [Act.put, List.setIfInBounds_toArray, List.set_cons_zero, List.set_cons_succ]
            refine wpAnyH_take (i := 4) (oi := _) (v := _) (by simp only [List.getElem?_toArray, List.getElem?_cons_succ, List.getElem?_cons_zero]; rfl) (by kernel_rfl) (by kernel_rfl) (by kernel_rfl) (by exact fun _ _ _ h => h) (Or.inl ⟨by rfl, by intro w' hSw; (try dsimp only at hSw); first | (go_simp; done) | (go_simp; with_reducible rfl)⟩) hHeld ?_
            simp only [Act.put, List.setIfInBounds_toArray, List.set_cons_zero, List.set_cons_succ]
            refine wpAnyH_take (i := 5) (oi := _) (v := _) (by simp only [List.getElem?_toArray, List.getElem?_cons_succ, List.getElem?_cons_zero]; rfl) (by kernel_rfl) (by kernel_rfl) (by kernel_rfl) (by exact fun _ _ _ h => h) (Or.inl ⟨by rfl, by intro w' hSw; (try dsimp only at hSw); first | (go_simp; done) | (go_simp; with_reducible rfl)⟩) hHeld ?_
            simp only [Act.put, List.setIfInBounds_toArray, List.set_cons_zero, List.set_cons_succ]
            refine wpAnyH_take (i := 6) (oi := _) (v := _) (by simp only [List.getElem?_toArray, List.getElem?_cons_succ, List.getElem?_cons_zero]; rfl) (by kernel_rfl) (by kernel_rfl) (by kernel_rfl) (by exact fun _ _ _ h => h) (Or.inl ⟨by rfl, by intro w' hSw; (try dsimp only at hSw); first | (go_simp; done) | (go_simp; with_reducible rfl)⟩) hHeld ?_
            simp only [Act.put, List.setIfInBounds_toArray, List.set_cons_zero, List.set_cons_succ]
            refine wpAnyH_take (i := 7) (oi := _) (v := _) (by simp only [List.getElem?_toArray, List.getElem?_cons_succ, List.getElem?_cons_zero]; rfl) (by kernel_rfl) (by kernel_rfl) (by kernel_rfl) (by exact fun _ _ _ h => h) (Or.inl ⟨by rfl, by intro w' hSw; (try dsimp only at hSw); first | (go_simp; done) | (go_simp; with_reducible rfl)⟩) hHeld ?_
            simp only [Act.put, List.setIfInBounds_toArray, List.set_cons_zero, List.set_cons_succ]
            refine wpAnyH_take (i := 8) (oi := _) (v := _) (by simp only [List.getElem?_toArray, List.getElem?_cons_succ, List.getElem?_cons_zero]; rfl) (by kernel_rfl) (by kernel_rfl) (by kernel_rfl) (by exact fun _ _ _ h => h) (Or.inl ⟨by rfl, by intro w' hSw; (try dsimp only at hSw); first | (go_simp; done) | (go_simp; with_reducible rfl)⟩) hHeld ?_
            simp only [Act.put, List.setIfInBounds_toArray, List.set_cons_zero, List.set_cons_succ]
            refine wpAnyH_take (i := 9) (oi := _) (v := _) (by simp only [List.getElem?_toArray, List.getElem?_cons_succ, List.getElem?_cons_zero]; rfl) (by kernel_rfl) (by kernel_rfl) (by kernel_rfl) (by exact fun _ _ _ h => h) (Or.inl ⟨by rfl, by intro w' hSw; (try dsimp only at hSw); first | (go_simp; done) | (go_simp; with_reducible rfl)⟩) hHeld ?_
            simp only [Act.put, List.setIfInBounds_toArray, List.set_cons_zero, List.set_cons_succ]
            refine wpAnyH_take (i := 10) (oi := _) (v := _) (by simp only [List.getElem?_toArray, List.getElem?_cons_succ, List.getElem?_cons_zero]; rfl) (by kernel_rfl) (by kernel_rfl) (by kernel_rfl) (by exact fun _ _ _ h => h) (Or.inl ⟨by rfl, by intro w' hSw; (try dsimp only at hSw); first | (go_simp; done) | (go_simp; with_reducible rfl)⟩) hHeld ?_
            simp only [Act.put, List.setIfInBounds_toArray, List.set_cons_zero, List.set_cons_succ]
            refine wpAnyH_take (i := 11) (oi := _) (v := _) (by simp only [List.getElem?_toArray, List.getElem?_cons_succ, List.getElem?_cons_zero]; rfl) (by kernel_rfl) (by kernel_rfl) (by kernel_rfl) (by exact fun _ _ _ h => h) (Or.inl ⟨by rfl, by intro w' hSw; (try dsimp only at hSw); first | (go_simp; done) | (go_simp; with_reducible rfl)⟩) hHeld ?_
            simp only [Act.put, List.setIfInBounds_toArray, List.set_cons_zero, List.set_cons_succ]
            refine wpAnyH_take (i := 12) (oi := _) (v := _) (by simp only [List.getElem?_toArray, List.getElem?_cons_succ, List.getElem?_cons_zero]; rfl) (by kernel_rfl) (by kernel_rfl) (by kernel_rfl) (by exact fun _ _ _ h => h) (Or.inl ⟨by rfl, by intro w' hSw; (try dsimp only at hSw); first | (go_simp; done) | (go_simp; with_reducible rfl)⟩) hHeld ?_
            simp only [Act.put, List.setIfInBounds_toArray, List.set_cons_zero, List.set_cons_succ]
            refine wpAnyH_take (i := 13) (oi := _) (v := _) (by simp only [List.getElem?_toArray, List.getElem?_cons_succ, List.getElem?_cons_zero]; rfl) (by kernel_rfl) (by kernel_rfl) (by kernel_rfl) (by exact fun _ _ _ h => h) (Or.inl ⟨by rfl, by intro w' hSw; (try dsimp only at hSw); first | (go_simp; done) | (go_simp; with_reducible rfl)⟩) hHeld ?_
            simp only [Act.put, List.setIfInBounds_toArray, List.set_cons_zero, List.set_cons_succ]
            refine wpAnyH_take (i := 14) (oi := _) (v := _) (by simp only [List.getElem?_toArray, List.getElem?_cons_succ, List.getElem?_cons_zero]; rfl) (by kernel_rfl) (by kernel_rfl) (by kernel_rfl) (by exact fun _ _ _ h => h) (Or.inl ⟨by rfl, by intro w' hSw; (try dsimp only at hSw); first | (go_simp; done) | (go_simp; with_reducible rfl)⟩) hHeld ?_
            simp only [Act.put, List.setIfInBounds_toArray, List.set_cons_zero, List.set_cons_succ]
            refine wpAnyH_take (i := 15) (oi := _) (v := _) (by simp only [List.getElem?_toArray, List.getElem?_cons_succ, List.getElem?_cons_zero]; rfl) (by kernel_rfl) (by kernel_rfl) (by kernel_rfl) (by exact fun _ _ _ h => h) (Or.inl ⟨by rfl, by intro w' hSw; (try dsimp only at hSw); first | (go_simp; done) | (go_simp; with_reducible rfl)⟩) hHeld ?_
            simp only [Act.put, List.setIfInBounds_toArray, List.set_cons_zero, List.set_cons_succ]
            refine wpAnyH_ready (rs := [16]) (by kernel_rfl) (by simp) ?_
            refine AllReadyH.cons rfl (fun K hK => ?_) AllReadyH.nil
            go_simp
            go_wp2_with fail
            refine (full_any _ hy _).mono ?_
            rintro r w3 ⟨rfl, hb3⟩
            rw [HCUT.out]
            have HD3 : Hid (Lives wo.heap.size w3 b (subD L j)) := HD.out.below (w' := w3) ⟨hb3.os, hb3.tape, hb3.output, hb3.size, hb3.block⟩
            have HB3 : Hid (Below wo.heap.size wo w3) := HBi.out.trans (Below.mono (B := wi.heap.size) ⟨hb3.os, hb3.tape, hb3.output, hb3.size, hb3.block⟩ HBi.out.size)
            refine hK.out _ _ ((hb3.cell (p := ⟨b0, off0 + j * 6 + 3, none⟩) (Nat.lt_of_lt_of_le hb0 HWi.out.size)).trans hHeld) (fun hHeld => ?_)
            clear hK K
            refine wpAnyH_take (i := 17) (oi := _) (v := _) (by simp only [List.getElem?_toArray, List.getElem?_cons_succ, List.getElem?_cons_zero]; rfl) (by kernel_rfl) (by kernel_rfl) (by kernel_rfl) (by exact fun _ _ _ h => h) (Or.inl ⟨by rfl, by intro w' hSw; (try dsimp only at hSw); first | (go_simp; done) | (go_simp; with_reducible rfl)⟩) hHeld ?_
            simp only [Act.put, List.setIfInBounds_toArray, List.set_cons_zero, List.set_cons_succ]
            refine wpAnyH_ready (rs := [18]) (by kernel_rfl) (by simp) ?_
            refine AllReadyH.cons rfl (fun K hK => ?_) AllReadyH.nil
            go_simp
            go_wp2_with fail
            refine (live_submit ⟨2, j, cutB x, 0⟩ HD3.out HOK.out HB3.out.size).mono ?_
            rintro r w4 ⟨rfl, hd4, hb4⟩
            rw [HST.out.1, errV_0]
            rw [HST.out.2] at hd4
            have HD4 : Hid (Lives wo.heap.size w4 b (subD L (j + 1))) := hd4
            have HB4 : Hid (Below wo.heap.size wo w4) := HB3.out.trans hb4
            refine hK.out _ _ ?hold (fun hHeld => ?_)
            case hold => exact (hb4.cell (p := ⟨b0, off0 + j * 6 + 3, none⟩) (Nat.lt_of_lt_of_le hb0 HW.out.size)).trans hHeld
            clear hK K hd4 hb4
            refine wpAnyH_take (i := 19) (oi := _) (v := _) (by simp only [List.getElem?_toArray, List.getElem?_cons_succ, List.getElem?_cons_zero]; rfl) (by kernel_rfl) (by kernel_rfl) (by kernel_rfl) (by exact fun _ _ _ h => h) (Or.inl ⟨by rfl, by intro w' hSw; (try dsimp only at hSw); first | (go_simp; done) | (go_simp; with_reducible rfl)⟩) hHeld ?_
            simp only [Act.put, List.setIfInBounds_toArray, List.set_cons_zero, List.set_cons_succ]
            refine wpAnyH_done (by kernel_rfl) ?_ _
            clear hHeld
            go_wp2
            go_roundw
            case rel => exact ⟨j + 1, ⟨by omega, by omega⟩, by go_num, by go_num, HD4.out, HB4.out⟩
            case measure => simp [intOf]; omega
        · have hjn : j = min len0 8 := by omega
          have hDue := subD_due L j (by omega)
          rw [hjn, ← HDD.out, ← hjn] at hDue
          have HDU : Hid (Due D (subD L j)) := hDue
          have hor : ¬ j < len0 ∨ (j < len0 ∧ ¬ j < 8) := by omega
          clear hDue hjn hjlt
          rcases hor with g1 | ⟨g1, g2⟩
          all_goals
            go_wp2
            go_loopw [9, 12] (fun nv iv wr => ∃ (n i : Nat) (d : Dev), nv = .int .i64 n ∧ iv = .int .i64 i ∧ n + i ≤ 8 ∧ n = d.waiting.length ∧ Due D d ∧ d.depth = 8 ∧ Lives wo.heap.size wr b d ∧ Below wo.heap.size wo wr) (fun n _ _ => (intOf n).toNat)
            case atStart => exact ⟨j, 0, _, rfl, rfl, by omega, by simp [subD], HDU.out, rfl, HD.out, HBi.out⟩
            case round =>
              obtain ⟨n, i, d, rfl, rfl, hni, hnl, hdu, hdp, hd, hb⟩ := hrel
              obtain ⟨w3, rfl⟩ : ∃ w3, w3 = wr := ⟨_, rfl⟩
              have HD3 : Hid (Lives wo.heap.size w3 b d) := hd
              have HB3 : Hid (Below wo.heap.size wo w3) := hb
              have HDU3 : Hid (Due D d) := hdu
              have HDP3 : Hid (d.depth = 8) := hdp
              have HW3 : Hid (Below w.heap.size w w3) := HW.out.trans (HB3.out.mono HW.out.size)
              have HNL : Hid (n = d.waiting.length) := hnl
              clear hdu hdp hd hb hnl HD HBi HDU
              by_cases hn0 : 0 < n
              · have hnl : n = d.waiting.length := HNL.out
                have HNW : Hid (n = d.waiting.length) := hnl
                clear hnl
                by_cases hor2 : k = 1 ∧ i < len1
                · obtain ⟨hk1, hi1⟩ := hor2
                  have hkb : ((k : Int) == 1) = true := by rw [hk1]; rfl
                  clear hk1
                  obtain ⟨b1, off1, rfl, hb1', hc1⟩ : ∃ b1 off1, a1 = some ⟨b1, off1, none⟩ ∧ b1 < w3.heap.size ∧ ∀ i, i < len1 → w3.cell? ⟨b1, off1 + i, none⟩ = some (.int .i64 (L1 i)) := by
                    rcases H1.out.below HW3.out with h | h
                    · omega
                    · exact h
                  have ci := hc1 i hi1
                  have hxw := HW1.out i hi1
                  simp only [Lit.wf, IntKind.min, IntKind.max, IntKind.signed, IntKind.bits, Bool.and_eq_true, decide_eq_true_eq, if_true] at hxw
                  generalize L1 i = x at ci hxw
                  clear hc1
                  obtain ⟨KK, hKK1, hKK2, hKKn⟩ : ∃ KK : Nat, (wrap64 (x.tmod n + n)).tmod n = (KK : Int) ∧ (IntKind.i64.wrap (x.tmod n + n)).tmod n = (KK : Int) ∧ KK < n := modn x n hn0 (by omega)
                  have hn00 : ¬ (n : Int) = 0 := by omega
                  go_wp2_with fail
                  refine (live_complete (KK : Nat) HD3.out (HDU3.out.ok (by rw [HDP3.out]; decide)) (by rw [HDU3.out.keep]; decide) HB3.out.size).mono ?_
                  rintro e w5 ⟨rfl, hd5, hb5⟩
                  have hC := HDU3.out.complete KK (by have := HNW.out; omega)
                  have HD5 : Hid (Lives wo.heap.size w5 b (completeF d (KK : Nat)).1) := hd5
                  have HB5 : Hid (Below wo.heap.size wo w5) := HB3.out.trans hb5
                  have HDU5 : Hid (Due D (completeF d (KK : Nat)).1) := hC.2.1
                  have HDP5 : Hid ((completeF d (KK : Nat)).1.depth = 8) := by show _ = _; rw [hC.2.2.2]; exact HDP3.out
                  have HLN5 : Hid ((completeF d (KK : Nat)).1.waiting.length + 1 = d.waiting.length) := hC.2.2.1
                  rw [hC.1, errV_0]
                  clear hd5 hb5 hC
                  obtain ⟨cc, hcc⟩ : ∃ cc, (completeF d (KK : Nat)).2.1 = cc := ⟨_, rfl⟩
                  rw [hcc]
                  clear hcc
                  obtain ⟨ck, cs, cd, ct⟩ := cc
                  rw [show Cmd.agg ⟨ck, cs, cd, ct⟩ = .agg #[.int .i64 ck, .int .i64 cs, .string cd, .int .i64 ct] from rfl]
                  go_wp2
                  go_roundw
                  case rel => exact ⟨n - 1, i + 1, _, by go_num, by go_num, by omega, by have := HLN5.out; have := HNW.out; omega, HDU5.out, HDP5.out, HD5.out.below ((Below.refl _ _).alloc (Nat.le_refl _) _), HB5.out.alloc HB5.out.size _⟩
                  case measure => simp [intOf]; omega
                · have hor3 : ((k : Int) == 1) = false ∨ (((k : Int) == 1) = true ∧ ¬ i < len1) := by
                    rcases (by omega : k = 0 ∨ (k = 1 ∧ ¬ i < len1)) with rfl | ⟨rfl, h⟩
                    · exact .inl rfl
                    · exact .inr ⟨rfl, h⟩
                  clear hor2
                  rcases hor3 with hkb | ⟨hkb, hi1⟩
                  all_goals
                    go_wp2_with fail
                    refine (live_complete 0 HD3.out (HDU3.out.ok (by rw [HDP3.out]; decide)) (by rw [HDU3.out.keep]; decide) HB3.out.size).mono ?_
                    rintro e w5 ⟨rfl, hd5, hb5⟩
                    have hC : (completeF d 0).2.2 = 0 ∧ Due D (completeF d 0).1 ∧ (completeF d 0).1.waiting.length + 1 = d.waiting.length ∧ (completeF d 0).1.depth = d.depth := HDU3.out.complete 0 (by have := HNW.out; omega)
                    have HD5 : Hid (Lives wo.heap.size w5 b (completeF d 0).1) := hd5
                    have HB5 : Hid (Below wo.heap.size wo w5) := HB3.out.trans hb5
                    have HDU5 : Hid (Due D (completeF d 0).1) := hC.2.1
                    have HDP5 : Hid ((completeF d 0).1.depth = 8) := by show _ = _; rw [hC.2.2.2]; exact HDP3.out
                    have HLN5 : Hid ((completeF d 0).1.waiting.length + 1 = d.waiting.length) := hC.2.2.1
                    rw [hC.1, errV_0]
                    clear hd5 hb5 hC
                    obtain ⟨cc, hcc⟩ : ∃ cc, (completeF d 0).2.1 = cc := ⟨_, rfl⟩
                    rw [hcc]
                    clear hcc
                    obtain ⟨ck, cs, cd, ct⟩ := cc
                    rw [show Cmd.agg ⟨ck, cs, cd, ct⟩ = .agg #[.int .i64 ck, .int .i64 cs, .string cd, .int .i64 ct] from rfl]
                    go_wp2
                    go_roundw
                    case rel => exact ⟨n - 1, i + 1, _, by go_num, by go_num, by omega, by have := HLN5.out; have := HNW.out; omega, HDU5.out, HDP5.out, HD5.out.below ((Below.refl _ _).alloc (Nat.le_refl _) _), HB5.out.alloc HB5.out.size _⟩
                    case measure => simp [intOf]; omega
              · obtain rfl : n = 0 := by omega
                have hwai : d.waiting = [] := List.eq_nil_of_length_eq_zero HNL.out.symm
                have HFD : Hid (∀ s : Int, 0 ≤ s → s < 8 → lookN d s = 0 ∧ lookT d s = D s) := by
                  intro s s0 s8
                  have hN : lookN d s = 0 := by unfold lookN; rw [if_neg (by rw [HDU3.out.down]; decide), if_pos ⟨s0, by rw [HDU3.out.las]; exact s8⟩]
                  refine ⟨hN, ?_⟩
                  unfold lookT
                  rw [if_pos hN]
                  rcases HDU3.out.has s s0 s8 with h | h
                  · rw [hwai] at h; cases h
                  · exact h
                have HOK3 : Hid (Ok d) := HDU3.out.ok (by rw [HDP3.out]; decide)
                clear hwai
                go_wp2
                obtain ⟨v9, hv9⟩ : ∃ v, v = Value.int .i64 ((0 : Nat) : Int) := ⟨_, rfl⟩
                rw [← hv9]
                clear hv9
                go_loopw [16] (fun iv wr => ∃ m : Nat, m ≤ 8 ∧ iv = .int .i64 m ∧ wr.heap[w1.heap.size]? = some (.cells (foundC D (k * 8 + m)) 26 (0, 0)) ∧ Lives wo.heap.size wr b d ∧ Below w1.heap.size w1 wr ∧ wo.heap.size ≤ wr.heap.size) (fun i _ => 8 - (intOf i).toNat)
                case atStart => exact ⟨0, by decide, rfl, (HB3.out.block _ (lt_of_heap HFO.out)).trans HFO.out, HD3.out, HB.out.trans (HB3.out.mono HB.out.size), HB3.out.size⟩
                case round =>
                  obtain ⟨m, hm8, rfl, hf4, hd4, hb4, hs4⟩ := hrel
                  obtain ⟨w4, rfl⟩ : ∃ w4, w4 = wr := ⟨_, rfl⟩
                  have HF4 : Hid (w4.heap[w1.heap.size]? = some (.cells (foundC D (k * 8 + m)) 26 (0, 0))) := hf4
                  have HD4 : Hid (Lives wo.heap.size w4.drew b d) := Lives.below hd4 ((Below.refl _ _).drew)
                  have HB4 : Hid (Below w1.heap.size w1 w4) := hb4
                  have HS4 : Hid (wo.heap.size ≤ w4.heap.size) := hs4
                  have HFL : Hid (w1.heap.size < wo.heap.size) := lt_of_heap HFO.out
                  clear hf4 hd4 hb4 hs4
                  by_cases hm : m < 8
                  · have hlk := HFD.out (m : Int) (by omega) (by omega)
                    have HLK : Hid (lookN d (m : Int) = 0 ∧ lookT d (m : Int) = D (m : Int)) := hlk
                    clear hlk
                    have hkm : k * 8 + m < 16 := by omega
                    go_wp2_with fail
                    refine wp_region_held_drew (S := fun _ => True) (by kernel_rfl) (by exact True.intro) (fun hHeld => ?_)
                    change wpAnyH _ _ _ _ _ 11 (Array.replicate 11 false) _ _
                    refine wpAnyH_take (i := 0) (oi := _) (v := _) (by simp only [List.getElem?_toArray, List.getElem?_cons_zero]; rfl) (by kernel_rfl) (by kernel_rfl) (by kernel_rfl) (by exact fun _ _ _ h => h) (Or.inl ⟨by rfl, by intro w' hSw; (try dsimp only at hSw); first | (go_simp; done) | (go_simp; with_reducible rfl)⟩) hHeld ?_
                    simp only [Act.put, List.setIfInBounds_toArray, List.set_cons_zero, List.set_cons_succ]
                    refine wpAnyH_take (i := 1) (oi := _) (v := _) (by simp only [List.getElem?_toArray, List.getElem?_cons_succ, List.getElem?_cons_zero]; rfl) (by kernel_rfl) (by kernel_rfl) (by kernel_rfl) (by exact fun _ _ _ h => h) (Or.inl ⟨by rfl, by intro w' hSw; (try dsimp only at hSw); first | (go_simp; done) | (go_simp; with_reducible rfl)⟩) hHeld ?_
                    simp only [Act.put, List.setIfInBounds_toArray, List.set_cons_zero, List.set_cons_succ]
                    refine wpAnyH_take (i := 2) (oi := _) (v := _) (by simp only [List.getElem?_toArray, List.getElem?_cons_succ, List.getElem?_cons_zero]; rfl) (by kernel_rfl) (by kernel_rfl) (by kernel_rfl) (by exact fun _ _ _ h => h) (Or.inl ⟨by rfl, by intro w' hSw; (try dsimp only at hSw); first | (go_simp; done) | (go_simp; with_reducible rfl)⟩) hHeld ?_
                    simp only [Act.put, List.setIfInBounds_toArray, List.set_cons_zero, List.set_cons_succ]
                    refine wpAnyH_take (i := 3) (oi := _) (v := _) (by simp only [List.getElem?_toArray, List.getElem?_cons_succ, List.getElem?_cons_zero]; rfl) (by kernel_rfl) (by kernel_rfl) (by kernel_rfl) (by exact fun _ _ _ h => h) (Or.inl ⟨by rfl, by intro w' hSw; (try dsimp only at hSw); first | (go_simp; done) | (go_simp; with_reducible rfl)⟩) hHeld ?_
                    simp only [Act.put, List.setIfInBounds_toArray, List.set_cons_zero, List.set_cons_succ]
                    refine wpAnyH_take (i := 8) (oi := _) (v := _) (by simp only [List.getElem?_toArray, List.getElem?_cons_succ, List.getElem?_cons_zero]; rfl) (by kernel_rfl) (by kernel_rfl) (by kernel_rfl) (by exact fun _ _ _ h => h) (Or.inl ⟨by rfl, by intro w' hSw; (try dsimp only at hSw); first | (go_simp; done) | (go_simp; with_reducible rfl)⟩) hHeld ?_
                    simp only [Act.put, List.setIfInBounds_toArray, List.set_cons_zero, List.set_cons_succ]
                    refine wpAnyH_ready (rs := [4]) (by kernel_rfl) (by simp) ?_
                    refine AllReadyH.cons rfl (fun K hK => ?_) AllReadyH.nil
                    go_simp
                    go_wp2_with fail
                    refine (live_look (m : Int) HD4.out HOK3.out).mono ?_
                    rintro r w5 ⟨rfl, hd5, hb5⟩
                    rw [HLK.out.1, HLK.out.2, errV_0]
                    have HD5 : Hid (Lives wo.heap.size w5 b d) := hd5
                    have HB5 : Hid (Below w4.heap.size w4 w5) := ⟨hb5.os, hb5.tape, hb5.output, hb5.size, hb5.block⟩
                    refine hK.out _ _ True.intro (fun hHeld => ?_)
                    clear hK K hd5 hb5
                    refine wpAnyH_take (i := 5) (oi := _) (v := _) (by simp only [List.getElem?_toArray, List.getElem?_cons_succ, List.getElem?_cons_zero]; rfl) (by kernel_rfl) (by kernel_rfl) (by kernel_rfl) (by exact fun _ _ _ h => h) (Or.inl ⟨by rfl, by intro w' hSw; (try dsimp only at hSw); first | (go_simp; done) | (go_simp; with_reducible rfl)⟩) hHeld ?_
                    simp only [Act.put, List.setIfInBounds_toArray, List.set_cons_zero, List.set_cons_succ]
                    refine wpAnyH_take (i := 6) (oi := _) (v := _) (by simp only [List.getElem?_toArray, List.getElem?_cons_succ, List.getElem?_cons_zero]; rfl) (by kernel_rfl) (by kernel_rfl) (by kernel_rfl) (by exact fun _ _ _ h => h) (Or.inl ⟨by rfl, by intro w' hSw; (try dsimp only at hSw); first | (go_simp; done) | (go_simp; with_reducible rfl)⟩) hHeld ?_
                    simp only [Act.put, List.setIfInBounds_toArray, List.set_cons_zero, List.set_cons_succ]
                    refine wpAnyH_take (i := 7) (oi := _) (v := _) (by simp only [List.getElem?_toArray, List.getElem?_cons_succ, List.getElem?_cons_zero]; rfl) (by kernel_rfl) (by kernel_rfl) (by kernel_rfl) (by exact fun _ _ _ h => h) (Or.inl ⟨by rfl, by intro w' hSw; (try dsimp only at hSw); first | (go_simp; done) | (go_simp; with_reducible rfl)⟩) hHeld ?_
                    simp only [Act.put, List.setIfInBounds_toArray, List.set_cons_zero, List.set_cons_succ]
                    refine wpAnyH_take (i := 9) (oi := _) (v := _) (by simp only [List.getElem?_toArray, List.getElem?_cons_succ, List.getElem?_cons_zero]; rfl) (by kernel_rfl) (by kernel_rfl) (by kernel_rfl) (by exact fun _ _ _ h => h) (Or.inl ⟨by rfl, by intro w' hSw; (try dsimp only at hSw); first | (go_simp; done) | (go_simp; with_reducible rfl)⟩) hHeld ?_
                    simp only [Act.put, List.setIfInBounds_toArray, List.set_cons_zero, List.set_cons_succ]
                    refine wpAnyH_ready (rs := [10]) (by kernel_rfl) (by simp) ?_
                    refine AllReadyH.cons rfl (fun K hK => ?_) AllReadyH.nil
                    have HF5 : Hid (w5.heap[w1.heap.size]? = some (.cells (foundC D (k * 8 + m)) 26 (0, 0))) := (HB5.out.block _ (lt_of_heap HF4.out)).trans HF4.out
                    have cc : w5.cell? ⟨w1.heap.size, k * 8 + m, none⟩ = some (.string ⟨#[]⟩) := cell_of_heap HF5.out _ _ (by simp [foundC, hkm])
                    have ff : w5.frozen? ⟨w1.heap.size, k * 8 + m, none⟩ = false := free_of_heap HF5.out _
                    go_simp
                    refine hK.out _ _ True.intro (fun hHeld => ?_)
                    clear hK K cc ff
                    refine wpAnyH_done (by kernel_rfl) ?_ _
                    clear hHeld
                    have HF6 : Hid ((w5.setCell ⟨w1.heap.size, k * 8 + m, none⟩ (.string (D (m : Int)))).heap[w1.heap.size]? = some (.cells (foundC D (k * 8 + (m + 1))) 26 (0, 0))) := by
                      have h := heap_setCell_same w5 w1.heap.size (k * 8 + m) _ 26 (.string (D (m : Int))) HF5.out
                      rw [show (m : Int) = (((k * 8 + m) % 8 : Nat) : Int) by omega, found_set D _ hkm] at h
                      rw [show (m : Int) = (((k * 8 + m) % 8 : Nat) : Int) by omega]
                      exact h
                    have HD6 : Hid (Lives wo.heap.size (w5.setCell ⟨w1.heap.size, k * 8 + m, none⟩ (.string (D (m : Int)))) b d) := HD5.out.setLow _ _ _ HFL.out
                    have HB6 : Hid (Below w1.heap.size w1 (w5.setCell ⟨w1.heap.size, k * 8 + m, none⟩ (.string (D (m : Int))))) := (HB4.out.trans (HB5.out.mono HB4.out.size)).setCell (p := ⟨w1.heap.size, k * 8 + m, none⟩) (Nat.le_refl _) _
                    have HS6 : Hid (wo.heap.size ≤ (w5.setCell ⟨w1.heap.size, k * 8 + m, none⟩ (.string (D (m : Int)))).heap.size) := by have := HB5.out.size; have := HS4.out; show _ ≤ _; simp; omega
                    go_wp2
                    go_roundw
                    case rel => exact ⟨m + 1, by omega, by go_num, HF6.out, HD6.out, HB6.out, HS6.out⟩
                    case measure => simp [intOf]; omega
                  · have hm9 : m = 8 := by omega
                    have HF9 : Hid (w4.heap[w1.heap.size]? = some (.cells (foundC D ((k + 1) * 8)) 26 (0, 0))) := by
                      show _ = _
                      rw [show (k + 1) * 8 = k * 8 + m by omega]
                      exact HF4.out
                    have hmb : ¬ ((m : Int) < 8) := by omega
                    clear hm9
                    go_wp2
                    go_roundw
                    case rel => exact ⟨k + 1, by omega, by go_num, HF9.out, HB4.out⟩
                    case measure => simp [intOf]; omega
    · obtain rfl : k = 2 := by omega
      have hq : ∀ p, p < 16 → wo.cell? ⟨w1.heap.size, p, none⟩ = some (.string (D (p % 8 : Nat))) := fun p hp => cell_of_heap HFO.out p _ (by simp [foundC, hp])
      have q0 : wo.cell? ⟨w1.heap.size, 0, none⟩ = some (.string (D 0)) := hq 0 (by decide)
      have q1 : wo.cell? ⟨w1.heap.size, 1, none⟩ = some (.string (D 1)) := hq 1 (by decide)
      have q2 : wo.cell? ⟨w1.heap.size, 2, none⟩ = some (.string (D 2)) := hq 2 (by decide)
      have q3 : wo.cell? ⟨w1.heap.size, 3, none⟩ = some (.string (D 3)) := hq 3 (by decide)
      have q4 : wo.cell? ⟨w1.heap.size, 4, none⟩ = some (.string (D 4)) := hq 4 (by decide)
      have q5 : wo.cell? ⟨w1.heap.size, 5, none⟩ = some (.string (D 5)) := hq 5 (by decide)
      have q6 : wo.cell? ⟨w1.heap.size, 6, none⟩ = some (.string (D 6)) := hq 6 (by decide)
      have q7 : wo.cell? ⟨w1.heap.size, 7, none⟩ = some (.string (D 7)) := hq 7 (by decide)
      have q8 : wo.cell? ⟨w1.heap.size, 8, none⟩ = some (.string (D 0)) := hq 8 (by decide)
      have q9 : wo.cell? ⟨w1.heap.size, 9, none⟩ = some (.string (D 1)) := hq 9 (by decide)
      have q10 : wo.cell? ⟨w1.heap.size, 10, none⟩ = some (.string (D 2)) := hq 10 (by decide)
      have q11 : wo.cell? ⟨w1.heap.size, 11, none⟩ = some (.string (D 3)) := hq 11 (by decide)
      have q12 : wo.cell? ⟨w1.heap.size, 12, none⟩ = some (.string (D 4)) := hq 12 (by decide)
      have q13 : wo.cell? ⟨w1.heap.size, 13, none⟩ = some (.string (D 5)) := hq 13 (by decide)
      have q14 : wo.cell? ⟨w1.heap.size, 14, none⟩ = some (.string (D 6)) := hq 14 (by decide)
      have q15 : wo.cell? ⟨w1.heap.size, 15, none⟩ = some (.string (D 7)) := hq 15 (by decide)
      have hsz : ∀ s, (D s).size ≤ maxLen := fun s => by rw [HDD.out]; exact dueO_size L _ s
      clear hq hlt hk HDD HFO
      have s0 : (D 0).size ≤ maxLen := hsz 0
      have s1 : (D 1).size ≤ maxLen := hsz 1
      have s2 : (D 2).size ≤ maxLen := hsz 2
      have s3 : (D 3).size ≤ maxLen := hsz 3
      have s4 : (D 4).size ≤ maxLen := hsz 4
      have s5 : (D 5).size ≤ maxLen := hsz 5
      have s6 : (D 6).size ≤ maxLen := hsz 6
      have s7 : (D 7).size ≤ maxLen := hsz 7
      generalize D 0 = x0 at *
      generalize D 1 = x1 at *
      generalize D 2 = x2 at *
      generalize D 3 = x3 at *
      generalize D 4 = x4 at *
      generalize D 5 = x5 at *
      generalize D 6 = x6 at *
      generalize D 7 = x7 at *
      have heq := eq8 x0 x1 x2 x3 x4 x5 x6 x7 wo s0 s1 s2 s3 s4 s5 s6 s7
      go_wp2
      go_ret
      exact ⟨rfl, HW.out⟩

theorem nvmeOrders_calls {H : Type} {enc : TypeId × Value → H} {sp : Nat → Bool} {held : Bool} {d0 d1 : DataW H} {p0 p1 : List MemPlace} (a0 : Option Addr) (len0 cap0 : Nat) (a1 : Option Addr) (len1 cap1 : Nat) (w : World)
    (h0 : DataW.Trod enc Try.prog w 0 sp held 22 (.slice a0 len0 cap0) d0 p0) (h1 : DataW.Trod enc Try.prog w 0 sp held 23 (.slice a1 len1 cap1) d1 p1) :
    Calls Try.prog 3 #[.slice a0 len0 cap0, .slice a1 len1 cap1] w fun e w' => e = .returned (.bool true) ∧ Below w.heap.size w w' := by
  obtain ⟨L, c0, l0⟩ := acts_of_trod h0
  obtain ⟨L1, c1, q1, l1, _⟩ := ints_of_trod h1
  exact nvmeOrders_walk a0 len0 cap0 L a1 len1 cap1 L1 w c0 c1 q1 l0 l1

end Go.Proofs.Ytkfphmhnaelflaa.Nv
