/-
  CodeApart answers true for every input: two programs have the same bytes just where they are the same. No condition.
-/
import Derived.Test.YtgfbcekmnpdoeaaCdItems
import Derived.Deep.RegionHeld3
import Derived.RegionTactic
import Derived.BigRegion
namespace Go.Proofs.Ytgfbcekmnpdoeaa.Cd
open Go.ChangeShapes Go.WideShapes Go.ChangeAt Go.RowKit Go.Proofs.Fa
open Go.Proofs.Ytgfbcekmnpdoeaa.Nv (lt_of_heap lt_of_cell cell_of_heap free_of_heap)
open Go.Proofs.Ytgfbcekmnpdoeaa.Le (putF numF OutS num_any4 string_some errV getF leVal)

set_option maxRecDepth 100000
set_option maxHeartbeats 4000000

theorem putR_cases (l : List In4) : (putR l = putV l ∧ ∀ x ∈ l, RightP x) ∨ putR l = putX := by
  unfold putR
  by_cases h : l.all (fun x => decide (RightP x)) = true
  · left
    rw [if_pos h]
    exact ⟨rfl, fun x hx => of_decide_eq_true (List.all_eq_true.1 h x hx)⟩
  · right
    rw [if_neg h]
theorem putX_eq : putX = .tuple #[.string ByteArray.empty, .iface 90 (.int .i64 1)] := rfl

theorem codeApart_calls {H : Type} {enc : TypeId × Value → H} {sp : Nat → Bool} {held : Bool} {d0 d1 : DataW H} {p0 p1 : List MemPlace} (a0 : Option Addr) (len0 cap0 : Nat) (a1 : Option Addr) (len1 cap1 : Nat) (w : World)
    (ht0 : DataW.Trod enc Try.prog w 0 sp held 46 (.slice a0 len0 cap0) d0 p0) (ht1 : DataW.Trod enc Try.prog w 0 sp held 46 (.slice a1 len1 cap1) d1 p1) :
    Calls Try.prog 4 #[.slice a0 len0 cap0, .slice a1 len1 cap1] w fun e w' => e = .returned (.bool true) ∧ Below w.heap.size w w' := by
  obtain ⟨L0, hL0, hm0⟩ := items_of_trod ht0
  obtain ⟨L1, hL1, hm1⟩ := items_of_trod ht1
  have HA : Hid (ItemsAt w a0 len0 L0) := hL0
  have HC : Hid (ItemsAt w a1 len1 L1) := hL1
  clear ht0 ht1 hL0 hL1
  go_enter Try.func4, Try.ntmps4
  go_wp2_with fail
  refine (speaks_any w).mono ?_
  rintro e w1 ⟨rfl, hb1⟩
  have HB1 : Hid (Below w.heap.size w w1) := hb1
  clear hb1
  go_wp2_with fail
  go_loopw [5, 7] (fun av iv wr => ∃ k : Nat, k ≤ len0 ∧ k ≤ 20 ∧ iv = .int .i64 k ∧ IRow wr w1.heap.size av (fst L0 k) ∧ Below w1.heap.size w1 wr) (fun _ iv _ => 20 - (intOf iv).toNat)
  case atStart => exact ⟨0, Nat.zero_le _, Nat.zero_le _, rfl, World.ownsRow_nil _ _ _ _, Below.refl _ _⟩
  case round =>
    obtain ⟨k, hkk, hk20k, rfl, hr, hb⟩ := hrel
    obtain ⟨vk, rfl⟩ : ∃ x, x = wr := ⟨_, rfl⟩
    have HRk : Hid (IRow vk w1.heap.size u5 (fst L0 k)) := hr
    have HBk : Hid (Below w1.heap.size w1 vk) := hb
    clear hr hb
    obtain ⟨av, ac, hav⟩ := HRk.out.slice
    rw [fst_length] at hav
    subst hav
    have hK := ‹∀ (a : Act) (w : World), Code.wp Try.prog _ _ a w → _›
    have HREST := fun (x17 x18 x19 x20 x21 x22 x23 x24 : Value) => hK ⟨#[.slice a0 len0 cap0, .slice a1 len1 cap1, undef, undef, .bool false, .slice av k ac, .slice none 0 0, .int .i64 k, undef, undef, undef, undef, undef, undef, undef, .bool true, .bool false, x17, x18, x19, x20, x21, x22, x23, x24, u25, u26, u27, u28, u29, u30, u31, u32, u33, undef, undef, undef, undef, undef, undef, undef, undef, undef, undef, undef, undef, undef, undef, undef, undef, undef, undef, undef, undef, undef, undef, undef, undef, undef, undef, undef, undef, undef, undef, undef, undef, undef, undef, undef, undef, undef, undef, undef, undef, undef, undef, undef, undef, undef, undef, undef, undef, undef, undef, undef, undef, undef, undef, undef, undef, undef, undef, undef, undef, undef, undef, undef, undef, undef, undef, undef, undef, undef], []⟩ vk (by
      have HBW : Hid (Below w.heap.size w vk) := HB1.out.trans (HBk.out.mono HB1.out.size)
      go_wp2
      go_loopw [6, 8] (fun av iv wr => ∃ k : Nat, k ≤ len1 ∧ k ≤ 20 ∧ iv = .int .i64 k ∧ IRow wr vk.heap.size av (fst L1 k) ∧ Below vk.heap.size vk wr) (fun _ iv _ => 20 - (intOf iv).toNat)
      case atStart => exact ⟨0, Nat.zero_le _, Nat.zero_le _, rfl, World.ownsRow_nil _ _ _ _, Below.refl _ _⟩
      case round =>
        obtain ⟨m, hkm, hk20m, rfl, hr, hb⟩ := hrel
        obtain ⟨vm, rfl⟩ : ∃ x, x = wr := ⟨_, rfl⟩
        have HRm : Hid (IRow vm vk.heap.size u6 (fst L1 m)) := hr
        have HBm : Hid (Below vk.heap.size vk vm) := hb
        clear hr hb
        obtain ⟨bv, bc, hav⟩ := HRm.out.slice
        rw [fst_length] at hav
        subst hav
        have hK := ‹∀ (a : Act) (w : World), Code.wp Try.prog _ _ a w → _›
        have HREST := fun (x34 x35 x36 x37 x38 x39 x40 x41 : Value) => hK ⟨#[.slice a0 len0 cap0, .slice a1 len1 cap1, undef, undef, .bool false, .slice av k ac, .slice bv m bc, .int .i64 k, .int .i64 m, undef, undef, undef, undef, undef, undef, .bool true, .bool false, x17, x18, x19, x20, x21, x22, x23, x24, u25, u26, u27, u28, u29, u30, u31, u32, u33, x34, x35, x36, x37, x38, x39, x40, x41, u42, u43, u44, u45, u46, u47, u48, u49, u50, undef, undef, undef, undef, undef, undef, undef, undef, undef, undef, undef, undef, undef, undef, undef, undef, undef, undef, undef, undef, undef, undef, undef, undef, undef, undef, undef, undef, undef, undef, undef, undef, undef, undef, undef, undef, undef, undef, undef, undef, undef, undef, undef, undef, undef, undef, undef, undef, undef, undef, undef, undef], []⟩ vm (by
          have HRA : Hid (IRow vm w1.heap.size (.slice av k ac) (fst L0 k)) := HRk.out.below HBm.out
          have HRB : Hid (IRow vm vk.heap.size (.slice bv m bc) (fst L1 m)) := HRm
          have HW : Hid (Below w.heap.size w vm) := HBW.out.trans (HBm.out.mono HBW.out.size)
          have hP0 := put_any _ _ vm HRA.out.at (by rw [fst_length]; omega)
          clear HRm HBm HBk HRk HBW
          rcases putR_cases (fst L0 k) with ⟨q0, hr0⟩ | q0
          · rw [q0] at hP0
            have HR0 : Hid (∀ x ∈ fst L0 k, RightP x) := hr0
            clear hr0 q0
            unfold putV at hP0
            obtain ⟨S0, hS0⟩ : ∃ S0 : ByteArray, S0 = ⟨(progB (fst L0 k)).toArray⟩ := ⟨_, rfl⟩
            rw [← hS0] at hP0
            have HS0 : Hid (S0 = ⟨(progB (fst L0 k)).toArray⟩) := hS0
            clear hS0
            go_wp2_with fail
            refine hP0.mono ?_
            rintro r w3 ⟨rfl, hb3⟩
            have HW3 : Hid (Below w.heap.size w w3) := HW.out.trans (hb3.mono HW.out.size)
            have HRA3 : Hid (IRow w3 w1.heap.size (.slice av k ac) (fst L0 k)) := HRA.out.below hb3
            have HRB3 : Hid (IRow w3 vk.heap.size (.slice bv m bc) (fst L1 m)) := HRB.out.below hb3
            clear hb3 hP0 HW HRA HRB
            have hP1 := put_any _ _ w3 HRB3.out.at (by rw [fst_length]; omega)
            rcases putR_cases (fst L1 m) with ⟨q1, hr1⟩ | q1
            · rw [q1] at hP1
              have HR1 : Hid (∀ x ∈ fst L1 m, RightP x) := hr1
              clear hr1 q1
              unfold putV at hP1
              obtain ⟨S1, hS1⟩ : ∃ S1 : ByteArray, S1 = ⟨(progB (fst L1 m)).toArray⟩ := ⟨_, rfl⟩
              rw [← hS1] at hP1
              have HS1 : Hid (S1 = ⟨(progB (fst L1 m)).toArray⟩) := hS1
              clear hS1
              go_wp2_with fail
              refine hP1.mono ?_
              rintro r w4 ⟨rfl, hb4⟩
              have HW4 : Hid (Below w.heap.size w w4) := HW3.out.trans (hb4.mono HW3.out.size)
              have HRA4 : Hid (IRow w4 w1.heap.size (.slice av k ac) (fst L0 k)) := HRA3.out.below hb4
              have HRB4 : Hid (IRow w4 vk.heap.size (.slice bv m bc) (fst L1 m)) := HRB3.out.below hb4
              clear hb4 hP1 HW3 HRA3 HRB3
              obtain ⟨b0, hb0⟩ : ∃ b0 : Bool, ((k : Int) == (m : Int)) = b0 := ⟨_, rfl⟩
              have HB0 : Hid (((k : Int) == (m : Int)) = b0) := hb0
              go_wp2_with fail
              clear hb0
              go_loopw [13, 14] (fun bv iv wr => ∃ (b : Bool) (j : Nat), bv = .bool b ∧ iv = .int .i64 j ∧ j ≤ k ∧ Below w4.heap.size w4 wr ∧ ((b = true ∧ k = m ∧ (fst L0 k).take j = (fst L1 m).take j) ∨ (b = false ∧ fst L0 k ≠ fst L1 m))) (fun _ iv _ => k - (intOf iv).toNat)
              case atStart =>
                refine ⟨b0, 0, rfl, rfl, Nat.zero_le _, Below.refl _ _, ?_⟩
                have h := HB0.out
                cases b0
                · rw [beq_eq_false_iff_ne] at h
                  exact .inr ⟨rfl, fun e => h (by have := congrArg List.length e; rw [fst_length, fst_length] at this; omega)⟩
                · rw [beq_iff_eq] at h
                  exact .inl ⟨rfl, by omega, rfl⟩
              case round =>
                obtain ⟨b, j, rfl, rfl, hj, hbw, hcase⟩ := hrel
                have HBR : Hid (Below w4.heap.size w4 wr) := hbw
                have HC : Hid ((b = true ∧ k = m ∧ (fst L0 k).take j = (fst L1 m).take j) ∨ (b = false ∧ fst L0 k ≠ fst L1 m)) := hcase
                clear hbw hcase HB0
                have HWE : Hid (Below w.heap.size w wr) := HW4.out.trans (HBR.out.mono HW4.out.size)
                have hsz0 : S0.size = 8 * k := by rw [HS0.out]; show (progB (fst L0 k)).toArray.size = _; rw [List.size_toArray, progB_length HR0.out, fst_length]
                have hz1 : ((S0.size : Int) == 8 * (k : Int)) = true := by rw [beq_iff_eq, hsz0]; omega
                have hw8 : IntKind.i64.wrap (8 * (k : Int)) = 8 * (k : Int) := IntWalk.i64_in _ (by omega)
                clear hsz0
                cases b
                · have hne : fst L0 k ≠ fst L1 m := by
                    rcases HC.out with ⟨h, _⟩ | ⟨_, h⟩
                    · cases h
                    · exact h
                  have hse : (S0.toList == S1.toList) = false := Le.streq_no (fun e => by
                    rw [HS0.out, HS1.out] at e
                    have e2 : (progB (fst L0 k)).toArray = (progB (fst L1 m)).toArray := congrArg ByteArray.data e
                    exact hne (progB_inj HR0.out HR1.out (List.toArray_inj e2)))
                  clear hne
                  go_wp2_with fail
                  go_ret
                  exact ⟨rfl, HWE.out⟩
                · obtain ⟨hkm, htk⟩ : k = m ∧ (fst L0 k).take j = (fst L1 m).take j := by
                    rcases HC.out with ⟨_, h⟩ | ⟨h, _⟩
                    · exact h
                    · cases h
                  subst hkm
                  by_cases hjk : j < k
                  · have hj0 : j < (fst L0 k).length := by rw [fst_length]; exact hjk
                    have hj1 : j < (fst L1 k).length := by rw [fst_length]; exact hjk
                    obtain ⟨g0, o0, z0, ea, _, hz0, hg0, hc0⟩ : ∃ g off cap, Value.slice av k ac = .slice (some ⟨g, off, none⟩) (fst L0 k).length cap ∧ k ≤ cap ∧ cap ≤ 9223372036854775807 ∧ g < w4.heap.size ∧ InCells w4 g (off + j * 4) (fst L0 k)[j] := by
                      rcases HRA4.out.at with ⟨_, h0⟩ | ⟨g, off, cap, he, h1, h2, h3, h4⟩
                      · rw [h0] at hj0; cases hj0
                      · exact ⟨g, off, cap, he, by rw [fst_length] at h1; exact h1, h2, h3, h4 j hj0⟩
                    obtain ⟨g1, o1, z1, eb, _, hz1', hg1, hc1⟩ : ∃ g off cap, Value.slice bv k bc = .slice (some ⟨g, off, none⟩) (fst L1 k).length cap ∧ k ≤ cap ∧ cap ≤ 9223372036854775807 ∧ g < w4.heap.size ∧ InCells w4 g (off + j * 4) (fst L1 k)[j] := by
                      rcases HRB4.out.at with ⟨_, h0⟩ | ⟨g, off, cap, he, h1, h2, h3, h4⟩
                      · rw [h0] at hj1; cases hj1
                      · exact ⟨g, off, cap, he, by rw [fst_length] at h1; exact h1, h2, h3, h4 j hj1⟩
                    rw [fst_length] at ea eb
                    injection ea with ea1 _ ea3
                    injection eb with eb1 _ eb3
                    subst ea1 eb1 ea3 eb3
                    obtain ⟨x0, x1, x2, x3⟩ := hc0.below HBR.out hg0
                    obtain ⟨y0, y1, y2, y3⟩ := hc1.below HBR.out hg1
                    have HT0 : Hid ((fst L0 k).take (j + 1) = (fst L0 k).take j ++ [(fst L0 k)[j]]) := List.take_succ_eq_append_getElem hj0
                    have HT1 : Hid ((fst L1 k).take (j + 1) = (fst L1 k).take j ++ [(fst L1 k)[j]]) := List.take_succ_eq_append_getElem hj1
                    have HNE : Hid ((fst L0 k)[j] ≠ (fst L1 k)[j] → fst L0 k ≠ fst L1 k) := fun h e => h (by congr 1)
                    have HTK : Hid ((fst L0 k).take j = (fst L1 k).take j) := htk
                    have hdj : decide ((j : Int) < (k : Int)) = true := decide_eq_true (by omega)
                    clear hc0 hc1 htk hz1 hw8
                    generalize (fst L0 k)[j] = x at *
                    generalize (fst L1 k)[j] = y at *
                    obtain ⟨a', b', c', d'⟩ := x
                    obtain ⟨e', f', g', h'⟩ := y
                    dsimp only at x0 x1 x2 x3 y0 y1 y2 y3
                    go_wp2_with fail
                    by_cases hd0 : a' = e'
                    case neg =>
                      refine wp_region_held_drew (S := fun W => W.cell? ⟨g0, o0 + j * 4, none⟩ = some (.int .i64 a') ∧ W.cell? ⟨g0, o0 + j * 4 + 1, none⟩ = some (.int .i64 b') ∧ W.cell? ⟨g0, o0 + j * 4 + 2, none⟩ = some (.int .i64 c') ∧ W.cell? ⟨g0, o0 + j * 4 + 3, none⟩ = some (.int .i64 d') ∧ W.cell? ⟨g1, o1 + j * 4, none⟩ = some (.int .i64 e') ∧ W.cell? ⟨g1, o1 + j * 4 + 1, none⟩ = some (.int .i64 f') ∧ W.cell? ⟨g1, o1 + j * 4 + 2, none⟩ = some (.int .i64 g') ∧ W.cell? ⟨g1, o1 + j * 4 + 3, none⟩ = some (.int .i64 h')) (by kernel_rfl) (by exact ⟨x0, x1, x2, x3, y0, y1, y2, y3⟩) (fun hHeld => ?_)
                      change wpAnyH _ _ _ _ _ 10 (Array.replicate 10 false) _ _
                      refine wpAnyH_take (i := 0) (oi := _) (v := _) (by simp only [List.getElem?_toArray, List.getElem?_cons_zero]; rfl) (by kernel_rfl) (by kernel_rfl) (by kernel_rfl) (by exact fun _ _ _ h => h) (Or.inl ⟨by rfl, by intro w' hSw; (try dsimp only at hSw); first | (go_simp; done) | (go_simp; with_reducible rfl)⟩) hHeld ?_
                      simp only [Act.put, List.setIfInBounds_toArray, List.set_cons_zero, List.set_cons_succ]
                      refine wpAnyH_take (i := 1) (oi := _) (v := _) (by simp only [List.getElem?_toArray, List.getElem?_cons_succ, List.getElem?_cons_zero]; rfl) (by kernel_rfl) (by kernel_rfl) (by kernel_rfl) (by exact fun _ _ _ h => h) (Or.inl ⟨by rfl, by intro w' hSw; (try dsimp only at hSw); first | (go_simp; done) | (go_simp; with_reducible rfl)⟩) hHeld ?_
                      simp only [Act.put, List.setIfInBounds_toArray, List.set_cons_zero, List.set_cons_succ]
                      refine wpAnyH_take (i := 2) (oi := _) (v := _) (by simp only [List.getElem?_toArray, List.getElem?_cons_succ, List.getElem?_cons_zero]; rfl) (by kernel_rfl) (by kernel_rfl) (by kernel_rfl) (by exact fun _ _ _ h => h) (Or.inl ⟨by rfl, by intro w' hSw; (try dsimp only at hSw); first | (go_simp; done) | (go_simp; with_reducible rfl)⟩) hHeld ?_
                      simp only [Act.put, List.setIfInBounds_toArray, List.set_cons_zero, List.set_cons_succ]
                      refine wpAnyH_take (i := 3) (oi := _) (v := _) (by simp only [List.getElem?_toArray, List.getElem?_cons_succ, List.getElem?_cons_zero]; rfl) (by kernel_rfl) (by kernel_rfl) (by kernel_rfl) (by exact fun _ _ _ h => h) (Or.inl ⟨by rfl, by intro w' hSw; (try dsimp only at hSw); first | (go_simp; done) | (go_simp; with_reducible rfl)⟩) hHeld ?_
                      simp only [Act.put, List.setIfInBounds_toArray, List.set_cons_zero, List.set_cons_succ]
                      refine wpAnyH_take (i := 4) (oi := _) (v := _) (by simp only [List.getElem?_toArray, List.getElem?_cons_succ, List.getElem?_cons_zero]; rfl) (by kernel_rfl) (by kernel_rfl) (by kernel_rfl) (by exact fun _ _ _ h => h) (Or.inl ⟨by rfl, by intro w' hSw; (try dsimp only at hSw); first | (go_simp; done) | (go_simp; with_reducible rfl)⟩) hHeld ?_
                      simp only [Act.put, List.setIfInBounds_toArray, List.set_cons_zero, List.set_cons_succ]
                      refine wpAnyH_take (i := 5) (oi := _) (v := _) (by simp only [List.getElem?_toArray, List.getElem?_cons_succ, List.getElem?_cons_zero]; rfl) (by kernel_rfl) (by kernel_rfl) (by kernel_rfl) (by exact fun _ _ _ h => h) (Or.inl ⟨by rfl, by intro w' hSw; (try dsimp only at hSw); first | (go_simp; done) | (go_simp; with_reducible rfl)⟩) hHeld ?_
                      simp only [Act.put, List.setIfInBounds_toArray, List.set_cons_zero, List.set_cons_succ]
                      refine wpAnyH_take (i := 6) (oi := _) (v := _) (by simp only [List.getElem?_toArray, List.getElem?_cons_succ, List.getElem?_cons_zero]; rfl) (by kernel_rfl) (by kernel_rfl) (by kernel_rfl) (by exact fun _ _ _ h => h) (Or.inl ⟨by rfl, by intro w' hSw; (try dsimp only at hSw); first | (go_simp; done) | (go_simp; with_reducible rfl)⟩) hHeld ?_
                      simp only [Act.put, List.setIfInBounds_toArray, List.set_cons_zero, List.set_cons_succ]
                      refine wpAnyH_take (i := 7) (oi := _) (v := _) (by simp only [List.getElem?_toArray, List.getElem?_cons_succ, List.getElem?_cons_zero]; rfl) (by kernel_rfl) (by kernel_rfl) (by kernel_rfl) (by exact fun _ _ _ h => h) (Or.inl ⟨by rfl, by intro w' hSw; (try dsimp only at hSw); first | (go_simp; done) | (go_simp; with_reducible rfl)⟩) hHeld ?_
                      simp only [Act.put, List.setIfInBounds_toArray, List.set_cons_zero, List.set_cons_succ]
                      refine wpAnyH_take (i := 8) (oi := _) (v := _) (by simp only [List.getElem?_toArray, List.getElem?_cons_succ, List.getElem?_cons_zero]; rfl) (by kernel_rfl) (by kernel_rfl) (by kernel_rfl) (by exact fun _ _ _ h => h) (Or.inl ⟨by rfl, by intro w' hSw; (try dsimp only at hSw); first | (go_simp; done) | (go_simp; with_reducible rfl)⟩) hHeld ?_
                      simp only [Act.put, List.setIfInBounds_toArray, List.set_cons_zero, List.set_cons_succ]
                      refine wpAnyH_take (i := 9) (oi := _) (v := _) (by simp only [List.getElem?_toArray, List.getElem?_cons_succ, List.getElem?_cons_zero]; rfl) (by kernel_rfl) (by kernel_rfl) (by kernel_rfl) (by exact fun _ _ _ h => h) (Or.inl ⟨by rfl, by intro w' hSw; (try dsimp only at hSw); first | (go_simp; done) | (go_simp; with_reducible rfl)⟩) hHeld ?_
                      simp only [Act.put, List.setIfInBounds_toArray, List.set_cons_zero, List.set_cons_succ]
                      refine wpAnyH_done (by kernel_rfl) ?_ _
                      clear hHeld x0 x1 x2 x3 y0 y1 y2 y3
                      have HBD : Hid (Below w4.heap.size w4 wr.drew) := HBR.out.drew
                      go_wp2_with fail
                      go_roundw
                      case rel => exact ⟨false, j + 1, rfl, by go_num, by omega, HBD.out, .inr ⟨rfl, HNE.out (fun e => hd0 (congrArg In4.op e))⟩⟩
                      case measure => simp [intOf]; omega
                    subst hd0
                    by_cases hd1 : b' = f'
                    case neg =>
                      refine wp_region_held_drew (S := fun W => W.cell? ⟨g0, o0 + j * 4, none⟩ = some (.int .i64 a') ∧ W.cell? ⟨g0, o0 + j * 4 + 1, none⟩ = some (.int .i64 b') ∧ W.cell? ⟨g0, o0 + j * 4 + 2, none⟩ = some (.int .i64 c') ∧ W.cell? ⟨g0, o0 + j * 4 + 3, none⟩ = some (.int .i64 d') ∧ W.cell? ⟨g1, o1 + j * 4, none⟩ = some (.int .i64 a') ∧ W.cell? ⟨g1, o1 + j * 4 + 1, none⟩ = some (.int .i64 f') ∧ W.cell? ⟨g1, o1 + j * 4 + 2, none⟩ = some (.int .i64 g') ∧ W.cell? ⟨g1, o1 + j * 4 + 3, none⟩ = some (.int .i64 h')) (by kernel_rfl) (by exact ⟨x0, x1, x2, x3, y0, y1, y2, y3⟩) (fun hHeld => ?_)
                      change wpAnyH _ _ _ _ _ 10 (Array.replicate 10 false) _ _
                      refine wpAnyH_take (i := 0) (oi := _) (v := _) (by simp only [List.getElem?_toArray, List.getElem?_cons_zero]; rfl) (by kernel_rfl) (by kernel_rfl) (by kernel_rfl) (by exact fun _ _ _ h => h) (Or.inl ⟨by rfl, by intro w' hSw; (try dsimp only at hSw); first | (go_simp; done) | (go_simp; with_reducible rfl)⟩) hHeld ?_
                      simp only [Act.put, List.setIfInBounds_toArray, List.set_cons_zero, List.set_cons_succ]
                      refine wpAnyH_take (i := 1) (oi := _) (v := _) (by simp only [List.getElem?_toArray, List.getElem?_cons_succ, List.getElem?_cons_zero]; rfl) (by kernel_rfl) (by kernel_rfl) (by kernel_rfl) (by exact fun _ _ _ h => h) (Or.inl ⟨by rfl, by intro w' hSw; (try dsimp only at hSw); first | (go_simp; done) | (go_simp; with_reducible rfl)⟩) hHeld ?_
                      simp only [Act.put, List.setIfInBounds_toArray, List.set_cons_zero, List.set_cons_succ]
                      refine wpAnyH_take (i := 2) (oi := _) (v := _) (by simp only [List.getElem?_toArray, List.getElem?_cons_succ, List.getElem?_cons_zero]; rfl) (by kernel_rfl) (by kernel_rfl) (by kernel_rfl) (by exact fun _ _ _ h => h) (Or.inl ⟨by rfl, by intro w' hSw; (try dsimp only at hSw); first | (go_simp; done) | (go_simp; with_reducible rfl)⟩) hHeld ?_
                      simp only [Act.put, List.setIfInBounds_toArray, List.set_cons_zero, List.set_cons_succ]
                      refine wpAnyH_take (i := 3) (oi := _) (v := _) (by simp only [List.getElem?_toArray, List.getElem?_cons_succ, List.getElem?_cons_zero]; rfl) (by kernel_rfl) (by kernel_rfl) (by kernel_rfl) (by exact fun _ _ _ h => h) (Or.inl ⟨by rfl, by intro w' hSw; (try dsimp only at hSw); first | (go_simp; done) | (go_simp; with_reducible rfl)⟩) hHeld ?_
                      simp only [Act.put, List.setIfInBounds_toArray, List.set_cons_zero, List.set_cons_succ]
                      refine wpAnyH_take (i := 4) (oi := _) (v := _) (by simp only [List.getElem?_toArray, List.getElem?_cons_succ, List.getElem?_cons_zero]; rfl) (by kernel_rfl) (by kernel_rfl) (by kernel_rfl) (by exact fun _ _ _ h => h) (Or.inl ⟨by rfl, by intro w' hSw; (try dsimp only at hSw); first | (go_simp; done) | (go_simp; with_reducible rfl)⟩) hHeld ?_
                      simp only [Act.put, List.setIfInBounds_toArray, List.set_cons_zero, List.set_cons_succ]
                      refine wpAnyH_take (i := 5) (oi := _) (v := _) (by simp only [List.getElem?_toArray, List.getElem?_cons_succ, List.getElem?_cons_zero]; rfl) (by kernel_rfl) (by kernel_rfl) (by kernel_rfl) (by exact fun _ _ _ h => h) (Or.inl ⟨by rfl, by intro w' hSw; (try dsimp only at hSw); first | (go_simp; done) | (go_simp; with_reducible rfl)⟩) hHeld ?_
                      simp only [Act.put, List.setIfInBounds_toArray, List.set_cons_zero, List.set_cons_succ]
                      refine wpAnyH_take (i := 6) (oi := _) (v := _) (by simp only [List.getElem?_toArray, List.getElem?_cons_succ, List.getElem?_cons_zero]; rfl) (by kernel_rfl) (by kernel_rfl) (by kernel_rfl) (by exact fun _ _ _ h => h) (Or.inl ⟨by rfl, by intro w' hSw; (try dsimp only at hSw); first | (go_simp; done) | (go_simp; with_reducible rfl)⟩) hHeld ?_
                      simp only [Act.put, List.setIfInBounds_toArray, List.set_cons_zero, List.set_cons_succ]
                      refine wpAnyH_take (i := 7) (oi := _) (v := _) (by simp only [List.getElem?_toArray, List.getElem?_cons_succ, List.getElem?_cons_zero]; rfl) (by kernel_rfl) (by kernel_rfl) (by kernel_rfl) (by exact fun _ _ _ h => h) (Or.inl ⟨by rfl, by intro w' hSw; (try dsimp only at hSw); first | (go_simp; done) | (go_simp; with_reducible rfl)⟩) hHeld ?_
                      simp only [Act.put, List.setIfInBounds_toArray, List.set_cons_zero, List.set_cons_succ]
                      refine wpAnyH_take (i := 8) (oi := _) (v := _) (by simp only [List.getElem?_toArray, List.getElem?_cons_succ, List.getElem?_cons_zero]; rfl) (by kernel_rfl) (by kernel_rfl) (by kernel_rfl) (by exact fun _ _ _ h => h) (Or.inl ⟨by rfl, by intro w' hSw; (try dsimp only at hSw); first | (go_simp; done) | (go_simp; with_reducible rfl)⟩) hHeld ?_
                      simp only [Act.put, List.setIfInBounds_toArray, List.set_cons_zero, List.set_cons_succ]
                      refine wpAnyH_take (i := 9) (oi := _) (v := _) (by simp only [List.getElem?_toArray, List.getElem?_cons_succ, List.getElem?_cons_zero]; rfl) (by kernel_rfl) (by kernel_rfl) (by kernel_rfl) (by exact fun _ _ _ h => h) (Or.inl ⟨by rfl, by intro w' hSw; (try dsimp only at hSw); first | (go_simp; done) | (go_simp; with_reducible rfl)⟩) hHeld ?_
                      simp only [Act.put, List.setIfInBounds_toArray, List.set_cons_zero, List.set_cons_succ]
                      refine wpAnyH_done (by kernel_rfl) ?_ _
                      clear hHeld x0 x1 x2 x3 y0 y1 y2 y3
                      have HBD : Hid (Below w4.heap.size w4 wr.drew) := HBR.out.drew
                      go_wp2_with fail
                      go_roundw
                      case rel => exact ⟨false, j + 1, rfl, by go_num, by omega, HBD.out, .inr ⟨rfl, HNE.out (fun e => hd1 (congrArg In4.d e))⟩⟩
                      case measure => simp [intOf]; omega
                    subst hd1
                    by_cases hd2 : c' = g'
                    case neg =>
                      refine wp_region_held_drew (S := fun W => W.cell? ⟨g0, o0 + j * 4, none⟩ = some (.int .i64 a') ∧ W.cell? ⟨g0, o0 + j * 4 + 1, none⟩ = some (.int .i64 b') ∧ W.cell? ⟨g0, o0 + j * 4 + 2, none⟩ = some (.int .i64 c') ∧ W.cell? ⟨g0, o0 + j * 4 + 3, none⟩ = some (.int .i64 d') ∧ W.cell? ⟨g1, o1 + j * 4, none⟩ = some (.int .i64 a') ∧ W.cell? ⟨g1, o1 + j * 4 + 1, none⟩ = some (.int .i64 b') ∧ W.cell? ⟨g1, o1 + j * 4 + 2, none⟩ = some (.int .i64 g') ∧ W.cell? ⟨g1, o1 + j * 4 + 3, none⟩ = some (.int .i64 h')) (by kernel_rfl) (by exact ⟨x0, x1, x2, x3, y0, y1, y2, y3⟩) (fun hHeld => ?_)
                      change wpAnyH _ _ _ _ _ 10 (Array.replicate 10 false) _ _
                      refine wpAnyH_take (i := 0) (oi := _) (v := _) (by simp only [List.getElem?_toArray, List.getElem?_cons_zero]; rfl) (by kernel_rfl) (by kernel_rfl) (by kernel_rfl) (by exact fun _ _ _ h => h) (Or.inl ⟨by rfl, by intro w' hSw; (try dsimp only at hSw); first | (go_simp; done) | (go_simp; with_reducible rfl)⟩) hHeld ?_
                      simp only [Act.put, List.setIfInBounds_toArray, List.set_cons_zero, List.set_cons_succ]
                      refine wpAnyH_take (i := 1) (oi := _) (v := _) (by simp only [List.getElem?_toArray, List.getElem?_cons_succ, List.getElem?_cons_zero]; rfl) (by kernel_rfl) (by kernel_rfl) (by kernel_rfl) (by exact fun _ _ _ h => h) (Or.inl ⟨by rfl, by intro w' hSw; (try dsimp only at hSw); first | (go_simp; done) | (go_simp; with_reducible rfl)⟩) hHeld ?_
                      simp only [Act.put, List.setIfInBounds_toArray, List.set_cons_zero, List.set_cons_succ]
                      refine wpAnyH_take (i := 2) (oi := _) (v := _) (by simp only [List.getElem?_toArray, List.getElem?_cons_succ, List.getElem?_cons_zero]; rfl) (by kernel_rfl) (by kernel_rfl) (by kernel_rfl) (by exact fun _ _ _ h => h) (Or.inl ⟨by rfl, by intro w' hSw; (try dsimp only at hSw); first | (go_simp; done) | (go_simp; with_reducible rfl)⟩) hHeld ?_
                      simp only [Act.put, List.setIfInBounds_toArray, List.set_cons_zero, List.set_cons_succ]
                      refine wpAnyH_take (i := 3) (oi := _) (v := _) (by simp only [List.getElem?_toArray, List.getElem?_cons_succ, List.getElem?_cons_zero]; rfl) (by kernel_rfl) (by kernel_rfl) (by kernel_rfl) (by exact fun _ _ _ h => h) (Or.inl ⟨by rfl, by intro w' hSw; (try dsimp only at hSw); first | (go_simp; done) | (go_simp; with_reducible rfl)⟩) hHeld ?_
                      simp only [Act.put, List.setIfInBounds_toArray, List.set_cons_zero, List.set_cons_succ]
                      refine wpAnyH_take (i := 4) (oi := _) (v := _) (by simp only [List.getElem?_toArray, List.getElem?_cons_succ, List.getElem?_cons_zero]; rfl) (by kernel_rfl) (by kernel_rfl) (by kernel_rfl) (by exact fun _ _ _ h => h) (Or.inl ⟨by rfl, by intro w' hSw; (try dsimp only at hSw); first | (go_simp; done) | (go_simp; with_reducible rfl)⟩) hHeld ?_
                      simp only [Act.put, List.setIfInBounds_toArray, List.set_cons_zero, List.set_cons_succ]
                      refine wpAnyH_take (i := 5) (oi := _) (v := _) (by simp only [List.getElem?_toArray, List.getElem?_cons_succ, List.getElem?_cons_zero]; rfl) (by kernel_rfl) (by kernel_rfl) (by kernel_rfl) (by exact fun _ _ _ h => h) (Or.inl ⟨by rfl, by intro w' hSw; (try dsimp only at hSw); first | (go_simp; done) | (go_simp; with_reducible rfl)⟩) hHeld ?_
                      simp only [Act.put, List.setIfInBounds_toArray, List.set_cons_zero, List.set_cons_succ]
                      refine wpAnyH_take (i := 6) (oi := _) (v := _) (by simp only [List.getElem?_toArray, List.getElem?_cons_succ, List.getElem?_cons_zero]; rfl) (by kernel_rfl) (by kernel_rfl) (by kernel_rfl) (by exact fun _ _ _ h => h) (Or.inl ⟨by rfl, by intro w' hSw; (try dsimp only at hSw); first | (go_simp; done) | (go_simp; with_reducible rfl)⟩) hHeld ?_
                      simp only [Act.put, List.setIfInBounds_toArray, List.set_cons_zero, List.set_cons_succ]
                      refine wpAnyH_take (i := 7) (oi := _) (v := _) (by simp only [List.getElem?_toArray, List.getElem?_cons_succ, List.getElem?_cons_zero]; rfl) (by kernel_rfl) (by kernel_rfl) (by kernel_rfl) (by exact fun _ _ _ h => h) (Or.inl ⟨by rfl, by intro w' hSw; (try dsimp only at hSw); first | (go_simp; done) | (go_simp; with_reducible rfl)⟩) hHeld ?_
                      simp only [Act.put, List.setIfInBounds_toArray, List.set_cons_zero, List.set_cons_succ]
                      refine wpAnyH_take (i := 8) (oi := _) (v := _) (by simp only [List.getElem?_toArray, List.getElem?_cons_succ, List.getElem?_cons_zero]; rfl) (by kernel_rfl) (by kernel_rfl) (by kernel_rfl) (by exact fun _ _ _ h => h) (Or.inl ⟨by rfl, by intro w' hSw; (try dsimp only at hSw); first | (go_simp; done) | (go_simp; with_reducible rfl)⟩) hHeld ?_
                      simp only [Act.put, List.setIfInBounds_toArray, List.set_cons_zero, List.set_cons_succ]
                      refine wpAnyH_take (i := 9) (oi := _) (v := _) (by simp only [List.getElem?_toArray, List.getElem?_cons_succ, List.getElem?_cons_zero]; rfl) (by kernel_rfl) (by kernel_rfl) (by kernel_rfl) (by exact fun _ _ _ h => h) (Or.inl ⟨by rfl, by intro w' hSw; (try dsimp only at hSw); first | (go_simp; done) | (go_simp; with_reducible rfl)⟩) hHeld ?_
                      simp only [Act.put, List.setIfInBounds_toArray, List.set_cons_zero, List.set_cons_succ]
                      refine wpAnyH_done (by kernel_rfl) ?_ _
                      clear hHeld x0 x1 x2 x3 y0 y1 y2 y3
                      have HBD : Hid (Below w4.heap.size w4 wr.drew) := HBR.out.drew
                      go_wp2_with fail
                      go_roundw
                      case rel => exact ⟨false, j + 1, rfl, by go_num, by omega, HBD.out, .inr ⟨rfl, HNE.out (fun e => hd2 (congrArg In4.s e))⟩⟩
                      case measure => simp [intOf]; omega
                    subst hd2
                    by_cases hd3 : d' = h'
                    case neg =>
                      refine wp_region_held_drew (S := fun W => W.cell? ⟨g0, o0 + j * 4, none⟩ = some (.int .i64 a') ∧ W.cell? ⟨g0, o0 + j * 4 + 1, none⟩ = some (.int .i64 b') ∧ W.cell? ⟨g0, o0 + j * 4 + 2, none⟩ = some (.int .i64 c') ∧ W.cell? ⟨g0, o0 + j * 4 + 3, none⟩ = some (.int .i64 d') ∧ W.cell? ⟨g1, o1 + j * 4, none⟩ = some (.int .i64 a') ∧ W.cell? ⟨g1, o1 + j * 4 + 1, none⟩ = some (.int .i64 b') ∧ W.cell? ⟨g1, o1 + j * 4 + 2, none⟩ = some (.int .i64 c') ∧ W.cell? ⟨g1, o1 + j * 4 + 3, none⟩ = some (.int .i64 h')) (by kernel_rfl) (by exact ⟨x0, x1, x2, x3, y0, y1, y2, y3⟩) (fun hHeld => ?_)
                      change wpAnyH _ _ _ _ _ 10 (Array.replicate 10 false) _ _
                      refine wpAnyH_take (i := 0) (oi := _) (v := _) (by simp only [List.getElem?_toArray, List.getElem?_cons_zero]; rfl) (by kernel_rfl) (by kernel_rfl) (by kernel_rfl) (by exact fun _ _ _ h => h) (Or.inl ⟨by rfl, by intro w' hSw; (try dsimp only at hSw); first | (go_simp; done) | (go_simp; with_reducible rfl)⟩) hHeld ?_
                      simp only [Act.put, List.setIfInBounds_toArray, List.set_cons_zero, List.set_cons_succ]
                      refine wpAnyH_take (i := 1) (oi := _) (v := _) (by simp only [List.getElem?_toArray, List.getElem?_cons_succ, List.getElem?_cons_zero]; rfl) (by kernel_rfl) (by kernel_rfl) (by kernel_rfl) (by exact fun _ _ _ h => h) (Or.inl ⟨by rfl, by intro w' hSw; (try dsimp only at hSw); first | (go_simp; done) | (go_simp; with_reducible rfl)⟩) hHeld ?_
                      simp only [Act.put, List.setIfInBounds_toArray, List.set_cons_zero, List.set_cons_succ]
                      refine wpAnyH_take (i := 2) (oi := _) (v := _) (by simp only [List.getElem?_toArray, List.getElem?_cons_succ, List.getElem?_cons_zero]; rfl) (by kernel_rfl) (by kernel_rfl) (by kernel_rfl) (by exact fun _ _ _ h => h) (Or.inl ⟨by rfl, by intro w' hSw; (try dsimp only at hSw); first | (go_simp; done) | (go_simp; with_reducible rfl)⟩) hHeld ?_
                      simp only [Act.put, List.setIfInBounds_toArray, List.set_cons_zero, List.set_cons_succ]
                      refine wpAnyH_take (i := 3) (oi := _) (v := _) (by simp only [List.getElem?_toArray, List.getElem?_cons_succ, List.getElem?_cons_zero]; rfl) (by kernel_rfl) (by kernel_rfl) (by kernel_rfl) (by exact fun _ _ _ h => h) (Or.inl ⟨by rfl, by intro w' hSw; (try dsimp only at hSw); first | (go_simp; done) | (go_simp; with_reducible rfl)⟩) hHeld ?_
                      simp only [Act.put, List.setIfInBounds_toArray, List.set_cons_zero, List.set_cons_succ]
                      refine wpAnyH_take (i := 4) (oi := _) (v := _) (by simp only [List.getElem?_toArray, List.getElem?_cons_succ, List.getElem?_cons_zero]; rfl) (by kernel_rfl) (by kernel_rfl) (by kernel_rfl) (by exact fun _ _ _ h => h) (Or.inl ⟨by rfl, by intro w' hSw; (try dsimp only at hSw); first | (go_simp; done) | (go_simp; with_reducible rfl)⟩) hHeld ?_
                      simp only [Act.put, List.setIfInBounds_toArray, List.set_cons_zero, List.set_cons_succ]
                      refine wpAnyH_take (i := 5) (oi := _) (v := _) (by simp only [List.getElem?_toArray, List.getElem?_cons_succ, List.getElem?_cons_zero]; rfl) (by kernel_rfl) (by kernel_rfl) (by kernel_rfl) (by exact fun _ _ _ h => h) (Or.inl ⟨by rfl, by intro w' hSw; (try dsimp only at hSw); first | (go_simp; done) | (go_simp; with_reducible rfl)⟩) hHeld ?_
                      simp only [Act.put, List.setIfInBounds_toArray, List.set_cons_zero, List.set_cons_succ]
                      refine wpAnyH_take (i := 6) (oi := _) (v := _) (by simp only [List.getElem?_toArray, List.getElem?_cons_succ, List.getElem?_cons_zero]; rfl) (by kernel_rfl) (by kernel_rfl) (by kernel_rfl) (by exact fun _ _ _ h => h) (Or.inl ⟨by rfl, by intro w' hSw; (try dsimp only at hSw); first | (go_simp; done) | (go_simp; with_reducible rfl)⟩) hHeld ?_
                      simp only [Act.put, List.setIfInBounds_toArray, List.set_cons_zero, List.set_cons_succ]
                      refine wpAnyH_take (i := 7) (oi := _) (v := _) (by simp only [List.getElem?_toArray, List.getElem?_cons_succ, List.getElem?_cons_zero]; rfl) (by kernel_rfl) (by kernel_rfl) (by kernel_rfl) (by exact fun _ _ _ h => h) (Or.inl ⟨by rfl, by intro w' hSw; (try dsimp only at hSw); first | (go_simp; done) | (go_simp; with_reducible rfl)⟩) hHeld ?_
                      simp only [Act.put, List.setIfInBounds_toArray, List.set_cons_zero, List.set_cons_succ]
                      refine wpAnyH_take (i := 8) (oi := _) (v := _) (by simp only [List.getElem?_toArray, List.getElem?_cons_succ, List.getElem?_cons_zero]; rfl) (by kernel_rfl) (by kernel_rfl) (by kernel_rfl) (by exact fun _ _ _ h => h) (Or.inl ⟨by rfl, by intro w' hSw; (try dsimp only at hSw); first | (go_simp; done) | (go_simp; with_reducible rfl)⟩) hHeld ?_
                      simp only [Act.put, List.setIfInBounds_toArray, List.set_cons_zero, List.set_cons_succ]
                      refine wpAnyH_take (i := 9) (oi := _) (v := _) (by simp only [List.getElem?_toArray, List.getElem?_cons_succ, List.getElem?_cons_zero]; rfl) (by kernel_rfl) (by kernel_rfl) (by kernel_rfl) (by exact fun _ _ _ h => h) (Or.inl ⟨by rfl, by intro w' hSw; (try dsimp only at hSw); first | (go_simp; done) | (go_simp; with_reducible rfl)⟩) hHeld ?_
                      simp only [Act.put, List.setIfInBounds_toArray, List.set_cons_zero, List.set_cons_succ]
                      refine wpAnyH_done (by kernel_rfl) ?_ _
                      clear hHeld x0 x1 x2 x3 y0 y1 y2 y3
                      have HBD : Hid (Below w4.heap.size w4 wr.drew) := HBR.out.drew
                      go_wp2_with fail
                      go_roundw
                      case rel => exact ⟨false, j + 1, rfl, by go_num, by omega, HBD.out, .inr ⟨rfl, HNE.out (fun e => hd3 (congrArg In4.imm e))⟩⟩
                      case measure => simp [intOf]; omega
                    subst hd3
                    refine wp_region_held_drew (S := fun W => W.cell? ⟨g0, o0 + j * 4, none⟩ = some (.int .i64 a') ∧ W.cell? ⟨g0, o0 + j * 4 + 1, none⟩ = some (.int .i64 b') ∧ W.cell? ⟨g0, o0 + j * 4 + 2, none⟩ = some (.int .i64 c') ∧ W.cell? ⟨g0, o0 + j * 4 + 3, none⟩ = some (.int .i64 d') ∧ W.cell? ⟨g1, o1 + j * 4, none⟩ = some (.int .i64 a') ∧ W.cell? ⟨g1, o1 + j * 4 + 1, none⟩ = some (.int .i64 b') ∧ W.cell? ⟨g1, o1 + j * 4 + 2, none⟩ = some (.int .i64 c') ∧ W.cell? ⟨g1, o1 + j * 4 + 3, none⟩ = some (.int .i64 d')) (by kernel_rfl) (by exact ⟨x0, x1, x2, x3, y0, y1, y2, y3⟩) (fun hHeld => ?_)
                    change wpAnyH _ _ _ _ _ 10 (Array.replicate 10 false) _ _
                    refine wpAnyH_take (i := 0) (oi := _) (v := _) (by simp only [List.getElem?_toArray, List.getElem?_cons_zero]; rfl) (by kernel_rfl) (by kernel_rfl) (by kernel_rfl) (by exact fun _ _ _ h => h) (Or.inl ⟨by rfl, by intro w' hSw; (try dsimp only at hSw); first | (go_simp; done) | (go_simp; with_reducible rfl)⟩) hHeld ?_
                    simp only [Act.put, List.setIfInBounds_toArray, List.set_cons_zero, List.set_cons_succ]
                    refine wpAnyH_take (i := 1) (oi := _) (v := _) (by simp only [List.getElem?_toArray, List.getElem?_cons_succ, List.getElem?_cons_zero]; rfl) (by kernel_rfl) (by kernel_rfl) (by kernel_rfl) (by exact fun _ _ _ h => h) (Or.inl ⟨by rfl, by intro w' hSw; (try dsimp only at hSw); first | (go_simp; done) | (go_simp; with_reducible rfl)⟩) hHeld ?_
                    simp only [Act.put, List.setIfInBounds_toArray, List.set_cons_zero, List.set_cons_succ]
                    refine wpAnyH_take (i := 2) (oi := _) (v := _) (by simp only [List.getElem?_toArray, List.getElem?_cons_succ, List.getElem?_cons_zero]; rfl) (by kernel_rfl) (by kernel_rfl) (by kernel_rfl) (by exact fun _ _ _ h => h) (Or.inl ⟨by rfl, by intro w' hSw; (try dsimp only at hSw); first | (go_simp; done) | (go_simp; with_reducible rfl)⟩) hHeld ?_
                    simp only [Act.put, List.setIfInBounds_toArray, List.set_cons_zero, List.set_cons_succ]
                    refine wpAnyH_take (i := 3) (oi := _) (v := _) (by simp only [List.getElem?_toArray, List.getElem?_cons_succ, List.getElem?_cons_zero]; rfl) (by kernel_rfl) (by kernel_rfl) (by kernel_rfl) (by exact fun _ _ _ h => h) (Or.inl ⟨by rfl, by intro w' hSw; (try dsimp only at hSw); first | (go_simp; done) | (go_simp; with_reducible rfl)⟩) hHeld ?_
                    simp only [Act.put, List.setIfInBounds_toArray, List.set_cons_zero, List.set_cons_succ]
                    refine wpAnyH_take (i := 4) (oi := _) (v := _) (by simp only [List.getElem?_toArray, List.getElem?_cons_succ, List.getElem?_cons_zero]; rfl) (by kernel_rfl) (by kernel_rfl) (by kernel_rfl) (by exact fun _ _ _ h => h) (Or.inl ⟨by rfl, by intro w' hSw; (try dsimp only at hSw); first | (go_simp; done) | (go_simp; with_reducible rfl)⟩) hHeld ?_
                    simp only [Act.put, List.setIfInBounds_toArray, List.set_cons_zero, List.set_cons_succ]
                    refine wpAnyH_take (i := 5) (oi := _) (v := _) (by simp only [List.getElem?_toArray, List.getElem?_cons_succ, List.getElem?_cons_zero]; rfl) (by kernel_rfl) (by kernel_rfl) (by kernel_rfl) (by exact fun _ _ _ h => h) (Or.inl ⟨by rfl, by intro w' hSw; (try dsimp only at hSw); first | (go_simp; done) | (go_simp; with_reducible rfl)⟩) hHeld ?_
                    simp only [Act.put, List.setIfInBounds_toArray, List.set_cons_zero, List.set_cons_succ]
                    refine wpAnyH_take (i := 6) (oi := _) (v := _) (by simp only [List.getElem?_toArray, List.getElem?_cons_succ, List.getElem?_cons_zero]; rfl) (by kernel_rfl) (by kernel_rfl) (by kernel_rfl) (by exact fun _ _ _ h => h) (Or.inl ⟨by rfl, by intro w' hSw; (try dsimp only at hSw); first | (go_simp; done) | (go_simp; with_reducible rfl)⟩) hHeld ?_
                    simp only [Act.put, List.setIfInBounds_toArray, List.set_cons_zero, List.set_cons_succ]
                    refine wpAnyH_take (i := 7) (oi := _) (v := _) (by simp only [List.getElem?_toArray, List.getElem?_cons_succ, List.getElem?_cons_zero]; rfl) (by kernel_rfl) (by kernel_rfl) (by kernel_rfl) (by exact fun _ _ _ h => h) (Or.inl ⟨by rfl, by intro w' hSw; (try dsimp only at hSw); first | (go_simp; done) | (go_simp; with_reducible rfl)⟩) hHeld ?_
                    simp only [Act.put, List.setIfInBounds_toArray, List.set_cons_zero, List.set_cons_succ]
                    refine wpAnyH_take (i := 8) (oi := _) (v := _) (by simp only [List.getElem?_toArray, List.getElem?_cons_succ, List.getElem?_cons_zero]; rfl) (by kernel_rfl) (by kernel_rfl) (by kernel_rfl) (by exact fun _ _ _ h => h) (Or.inl ⟨by rfl, by intro w' hSw; (try dsimp only at hSw); first | (go_simp; done) | (go_simp; with_reducible rfl)⟩) hHeld ?_
                    simp only [Act.put, List.setIfInBounds_toArray, List.set_cons_zero, List.set_cons_succ]
                    refine wpAnyH_take (i := 9) (oi := _) (v := _) (by simp only [List.getElem?_toArray, List.getElem?_cons_succ, List.getElem?_cons_zero]; rfl) (by kernel_rfl) (by kernel_rfl) (by kernel_rfl) (by exact fun _ _ _ h => h) (Or.inl ⟨by rfl, by intro w' hSw; (try dsimp only at hSw); first | (go_simp; done) | (go_simp; with_reducible rfl)⟩) hHeld ?_
                    simp only [Act.put, List.setIfInBounds_toArray, List.set_cons_zero, List.set_cons_succ]
                    refine wpAnyH_done (by kernel_rfl) ?_ _
                    clear hHeld x0 x1 x2 x3 y0 y1 y2 y3
                    have HBD : Hid (Below w4.heap.size w4 wr.drew) := HBR.out.drew
                    go_wp2_with fail
                    go_roundw
                    case rel => exact ⟨true, j + 1, rfl, by go_num, by omega, HBD.out, .inl ⟨by trivial, by trivial, by rw [HT0.out, HT1.out, HTK.out]⟩⟩
                    case measure => simp [intOf]; omega
                  · obtain rfl : j = k := by omega
                    have hse : (S0.toList == S1.toList) = true := Le.streq_yes (by
                      rw [HS0.out, HS1.out]
                      have e : fst L0 j = fst L1 j := by
                        have h1 : (fst L0 j).take j = fst L0 j := List.take_of_length_le (by rw [fst_length]; exact Nat.le_refl _)
                        have h2 : (fst L1 j).take j = fst L1 j := List.take_of_length_le (by rw [fst_length]; exact Nat.le_refl _)
                        rw [h1, h2] at htk
                        exact htk
                      rw [e])
                    clear htk
                    go_wp2_with fail
                    go_ret
                    exact ⟨rfl, HWE.out⟩
            · rw [q1] at hP1
              rw [putX_eq] at hP1
              go_wp2_with fail
              refine hP1.mono ?_
              rintro r w4 ⟨rfl, hb4⟩
              have HW4 : Hid (Below w.heap.size w w4) := HW3.out.trans (hb4.mono HW3.out.size)
              clear hb4 hP1 HW3
              go_wp2_with fail
              go_ret
              exact ⟨rfl, HW4.out⟩
          · rw [q0] at hP0
            rw [putX_eq] at hP0
            go_wp2_with fail
            refine hP0.mono ?_
            rintro r w3 ⟨rfl, hb3⟩
            have HW3 : Hid (Below w.heap.size w w3) := HW.out.trans (hb3.mono HW.out.size)
            have HRB3 : Hid (IRow w3 vk.heap.size (.slice bv m bc) (fst L1 m)) := HRB.out.below hb3
            clear hb3 hP0 HW HRA HRB
            have hP1 := put_any _ _ w3 HRB3.out.at (by rw [fst_length]; omega)
            have hv : ∃ s e, putR (fst L1 m) = .tuple #[.string s, e] := by
              rcases putR_cases (fst L1 m) with ⟨q1, _⟩ | q1
              · exact ⟨_, _, q1⟩
              · exact ⟨_, _, q1⟩
            obtain ⟨s1, e1, hv⟩ := hv
            rw [hv] at hP1
            clear hv
            go_wp2_with fail
            refine hP1.mono ?_
            rintro r w4 ⟨rfl, hb4⟩
            have HW4 : Hid (Below w.heap.size w w4) := HW3.out.trans (hb4.mono HW3.out.size)
            clear hb4 hP1 HW3
            go_wp2_with fail
            go_ret
            exact ⟨rfl, HW4.out⟩)
        clear hK
        by_cases hlt : m < len1 ∧ m < 20
        · clear HREST
          obtain ⟨hlt1, hlt2⟩ := hlt
          obtain ⟨b0, off0, ha0, hbl0, hc0⟩ : ∃ b off, a1 = some ⟨b, off, none⟩ ∧ b < w.heap.size ∧ ∀ i, i < len1 → InCells w b (off + i * 4) (L1 i) := by
            rcases HC.out with h | h
            · omega
            · exact h
          subst ha0
          have hbw : Below w.heap.size w vm := HBW.out.trans (HBm.out.mono HBW.out.size)
          obtain ⟨e0, e1, e2, e3⟩ := (hc0 m hlt1).below hbw hbl0
          obtain ⟨v2, w2, hrun, hr2, hb2, _⟩ := app_ins HRm.out HBm.out.size (by rw [fst_length]; omega) (L1 m)
          rw [← fst_succ] at hr2
          have HR2 : Hid (IRow w2 vk.heap.size v2 (fst L1 (m + 1))) := hr2
          have HB2 : Hid (Below vk.heap.size vk w2) := HBm.out.trans hb2
          clear hr2 hb2 hbw hc0 HRm HBm
          generalize L1 m = x at *
          go_wp2_with (at_builtin; refine wpList_append_run rfl _ _ _ rfl _ _ rfl rfl hrun ?_)
          go_roundw
          case rel => exact ⟨m + 1, by omega, by omega, by go_num, HR2.out, HB2.out⟩
          case measure => simp [intOf]; omega
        · have hx : decide ((m : Int) < (len1 : Int)) = false ∨ decide ((m : Int) < 20) = false := by
            rcases Nat.lt_or_ge m len1 with h1 | h1
            · right; rw [decide_eq_false_iff_not]; omega
            · left; rw [decide_eq_false_iff_not]; omega
          clear ‹∀ (a : Act) (w : World), Code.wp Try.prog _ _ a w → _›
          rcases hx with hx | hx
          all_goals go_wp2
          all_goals exact HREST _ _ _ _ _ _ _ _)
    clear hK
    by_cases hlt : k < len0 ∧ k < 20
    · clear HREST
      obtain ⟨hlt1, hlt2⟩ := hlt
      obtain ⟨b0, off0, ha0, hbl0, hc0⟩ : ∃ b off, a0 = some ⟨b, off, none⟩ ∧ b < w.heap.size ∧ ∀ i, i < len0 → InCells w b (off + i * 4) (L0 i) := by
        rcases HA.out with h | h
        · omega
        · exact h
      subst ha0
      have hbw : Below w.heap.size w vk := HB1.out.trans (HBk.out.mono HB1.out.size)
      obtain ⟨e0, e1, e2, e3⟩ := (hc0 k hlt1).below hbw hbl0
      obtain ⟨v2, w2, hrun, hr2, hb2, _⟩ := app_ins HRk.out HBk.out.size (by rw [fst_length]; omega) (L0 k)
      rw [← fst_succ] at hr2
      have HR2 : Hid (IRow w2 w1.heap.size v2 (fst L0 (k + 1))) := hr2
      have HB2 : Hid (Below w1.heap.size w1 w2) := HBk.out.trans hb2
      clear hr2 hb2 hbw hc0 HRk HBk
      generalize L0 k = x at *
      go_wp2_with (at_builtin; refine wpList_append_run rfl _ _ _ rfl _ _ rfl rfl hrun ?_)
      go_roundw
      case rel => exact ⟨k + 1, by omega, by omega, by go_num, HR2.out, HB2.out⟩
      case measure => simp [intOf]; omega
    · have hx : decide ((k : Int) < (len0 : Int)) = false ∨ decide ((k : Int) < 20) = false := by
        rcases Nat.lt_or_ge k len0 with h1 | h1
        · right; rw [decide_eq_false_iff_not]; omega
        · left; rw [decide_eq_false_iff_not]; omega
      clear ‹∀ (a : Act) (w : World), Code.wp Try.prog _ _ a w → _›
      rcases hx with hx | hx
      all_goals go_wp2
      all_goals exact HREST _ _ _ _ _ _ _ _

end Go.Proofs.Ytgfbcekmnpdoeaa.Cd
