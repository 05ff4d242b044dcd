/-
  Layer 20's helpers. Condition: the page is short.
-/
import Derived.Test.YtncjlcgndhodmabDoorRnA
import Derived.Deep.RegionHeld3
import Derived.RegionTactic
import Derived.BigRegion
namespace Go.Proofs.YtncjlcgndhodmabDoor.Rn
open Go.ChangeShapes Go.WideShapes Go.ChangeAt Go.RowKit
open Go.Proofs.YtncjlcgndhodmabDoor.Nv (lt_of_heap lt_of_cell cell_of_heap free_of_heap)

set_option maxRecDepth 100000
set_option maxHeartbeats 2000000

/-- The bytes of the page at which a helper looks. -/
def bytesF (m : Mach) : ByteArray := m.page.extract (m.r 2).toNat ((m.r 2).toNat + (m.r 3).toNat)
/-- What a helper does: did it, and the machine then. -/
def helpF (k : Int) (m : Mach) : Bool × Mach :=
  if k = 3 then (true, { m with next := m.r 2 }) else
  if mostF k < m.r 3 ∨ areF (m.r 2) (m.r 3) m.page.size = false then (false, m) else
  if k = 1 then (true, m.put 0 (Lib.compareBytes m.key.data.toList (bytesF m).data.toList)) else (true, { m with value := bytesF m })

theorem help_any {w : World} {b sb : Nat} {pv ev lv : Value} {m : Mach} (h : MAt w b pv ev sb lv m) (k : Int) (hp : m.page.size ≤ 1000000) (hr : m.r 3 ≤ 9223372036854775807) :
    Calls Tryd.prog 22 #[.pointer (some ⟨b, 0, none⟩), .int .i64 k] w fun r w' => r = .returned (.bool (helpF k m).1) ∧ MAt w' b pv ev sb lv (helpF k m).2 ∧ Own b w w' := by
  have HM : Hid (MAt w b pv ev sb lv m) := h
  have y23 : w.cell? ⟨b, 23, none⟩ = some (.int .i64 (m.r 2)) := h.cReg 2 (by decide)
  have y24 : w.cell? ⟨b, 24, none⟩ = some (.int .i64 (m.r 3)) := h.cReg 3 (by decide)
  have y2 := h.cPage
  have y33 := h.cValue
  have y34 := h.cNext
  have f33 := h.free 33
  have f34 := h.free 34
  clear h
  by_cases h3 : k = 3
  · have HF : Hid (helpF k m = (true, { m with next := m.r 2 })) := if_pos h3
    subst h3
    go_enter Tryd.func22, Tryd.ntmps22
    go_wp2
    go_ret
    rw [HF.out]
    exact ⟨rfl, HM.out.sNext _, Own.set _ _ _ _⟩
  have e3 : (k == 3) = false := beq_eq_false_iff_ne.2 h3
  have hall : (0 : Int) ≤ (m.page.size : Int) ∧ (m.page.size : Int) ≤ 1000000 := by omega
  have HA : Hid (∀ w, _) := fun w => are_any (m.r 2) (m.r 3) m.page.size w hall hr
  have HMo : Hid (∀ w, _) := fun w => most_any k w
  by_cases hmo : mostF k < m.r 3
  · have HF : Hid (helpF k m = (false, m)) := by show _ = _; unfold helpF; rw [if_neg h3, if_pos (.inl hmo)]
    have hd : decide (mostF k < m.r 3) = true := decide_eq_true hmo
    clear hmo h3
    go_enter Tryd.func22, Tryd.ntmps22
    go_wp2_with fail
    refine (HMo.out _).mono ?_
    rintro r w1 ⟨rfl, hw1⟩
    subst hw1
    go_wp2
    go_ret
    rw [HF.out]
    exact ⟨rfl, HM.out, Own.refl _ _⟩
  have hd : decide (mostF k < m.r 3) = false := decide_eq_false hmo
  cases ha : areF (m.r 2) (m.r 3) m.page.size
  · have HF : Hid (helpF k m = (false, m)) := by show _ = _; unfold helpF; rw [if_neg h3, if_pos (.inr ha)]
    rw [ha] at HA
    clear hmo h3 ha
    go_enter Tryd.func22, Tryd.ntmps22
    go_wp2_with fail
    refine (HMo.out _).mono ?_
    rintro r w1 ⟨rfl, hw1⟩
    subst hw1
    go_wp2_with fail
    refine (HA.out _).mono ?_
    rintro r w2 ⟨rfl, hw2⟩
    subst hw2
    go_wp2
    go_ret
    rw [HF.out]
    exact ⟨rfl, HM.out, Own.refl _ _⟩
  have hb : 0 ≤ m.r 2 ∧ 0 ≤ m.r 3 ∧ m.r 2 ≤ m.page.size - m.r 3 := of_decide_eq_true ha
  have hno : ¬ (mostF k < m.r 3 ∨ areF (m.r 2) (m.r 3) m.page.size = false) := by
    rw [ha]
    intro h
    rcases h with h | h
    · exact hmo h
    · cases h
  rw [ha] at HA
  obtain ⟨an, han⟩ : ∃ an : Nat, m.r 2 = an := ⟨(m.r 2).toNat, by omega⟩
  obtain ⟨nn, hnn⟩ : ∃ nn : Nat, m.r 3 = nn := ⟨(m.r 3).toNat, by omega⟩
  have HBY : Hid (bytesF m = m.page.extract an (an + nn)) := by show _ = _; unfold bytesF; rw [han, hnn, Int.toNat_natCast, Int.toNat_natCast]
  rw [han, hnn] at HA
  rw [han] at y23
  rw [hnn] at y24
  rw [hnn] at hd
  have hws : IntKind.i64.wrap ((an : Int) + (nn : Int)) = (an : Int) + (nn : Int) := IntWalk.i64_in _ (by omega)
  have k1 : 0 ≤ (an : Int) ∧ (an : Int) ≤ (an : Int) + (nn : Int) := by omega
  have k2 : 0 ≤ (an : Int) + (nn : Int) ∧ (an : Int) + (nn : Int) ≤ (m.page.size : Int) := by omega
  have k3 : ((an : Int) + (nn : Int)).toNat = an + nn := by omega
  by_cases h1 : k = 1
  · have HF : Hid (helpF k m = (true, m.put 0 (Lib.compareBytes m.key.data.toList (bytesF m).data.toList))) := by show _ = _; unfold helpF; rw [if_neg h3, if_neg hno, if_pos h1]
    rw [HBY.out] at HF
    obtain ⟨cv, hcv⟩ : ∃ cv, Lib.compareBytes m.key.data.toList (m.page.extract an (an + nn)).data.toList = cv := ⟨_, rfl⟩
    have HCO : Hid (∀ w, _) := fun w => compare_any m.key (m.page.extract an (an + nn)) w
    rw [hcv] at HCO HF
    clear hcv
    subst h1
    clear hmo h3 ha hno hb han hnn hr hp hall
    go_enter Tryd.func22, Tryd.ntmps22
    go_wp2_with fail
    refine (HMo.out _).mono ?_
    rintro r w1 ⟨rfl, hw1⟩
    subst hw1
    go_wp2_with fail
    refine (HA.out _).mono ?_
    rintro r w2 ⟨rfl, hw2⟩
    subst hw2
    go_wp2_with fail
    have yk := HM.out.cKey
    refine wp_region_held_drew (S := fun W => W.cell? ⟨b, 3, none⟩ = some (.string m.key)) (by kernel_rfl) (by exact yk) (fun hHeld => ?_)
    change wpAnyH _ _ _ _ _ 11 (Array.replicate 11 false) _ _
    refine wpAnyH_take (i := 0) (oi := _) (v := _) (by simp only [List.getElem?_toArray, List.getElem?_cons_zero]; rfl) (by kernel_rfl) (by kernel_rfl) (by kernel_rfl) (by exact fun _ _ _ h => h) (Or.inl ⟨by rfl, by intro w' hSw; (try dsimp only at hSw); first | (go_simp; done) | (go_simp; with_reducible rfl)⟩) hHeld ?_
    simp only [Act.put, List.setIfInBounds_toArray, List.set_cons_zero, List.set_cons_succ]
    refine wpAnyH_take (i := 1) (oi := _) (v := _) (by simp only [List.getElem?_toArray, List.getElem?_cons_succ, List.getElem?_cons_zero]; rfl) (by kernel_rfl) (by kernel_rfl) (by kernel_rfl) (by exact fun _ _ _ h => h) (Or.inl ⟨by rfl, by intro w' hSw; (try dsimp only at hSw); first | (go_simp; done) | (go_simp; with_reducible rfl)⟩) hHeld ?_
    simp only [Act.put, List.setIfInBounds_toArray, List.set_cons_zero, List.set_cons_succ]
    refine wpAnyH_take (i := 2) (oi := _) (v := _) (by simp only [List.getElem?_toArray, List.getElem?_cons_succ, List.getElem?_cons_zero]; rfl) (by kernel_rfl) (by kernel_rfl) (by kernel_rfl) (by exact fun _ _ _ h => h) (Or.inl ⟨by rfl, by intro w' hSw; (try dsimp only at hSw); first | (go_simp; done) | (go_simp; with_reducible rfl)⟩) hHeld ?_
    simp only [Act.put, List.setIfInBounds_toArray, List.set_cons_zero, List.set_cons_succ]
    refine wpAnyH_take (i := 3) (oi := _) (v := _) (by simp only [List.getElem?_toArray, List.getElem?_cons_succ, List.getElem?_cons_zero]; rfl) (by kernel_rfl) (by kernel_rfl) (by kernel_rfl) (by exact fun _ _ _ h => h) (Or.inl ⟨by rfl, by intro w' hSw; (try dsimp only at hSw); first | (go_simp; done) | (go_simp; with_reducible rfl)⟩) hHeld ?_
    simp only [Act.put, List.setIfInBounds_toArray, List.set_cons_zero, List.set_cons_succ]
    refine wpAnyH_take (i := 4) (oi := _) (v := _) (by simp only [List.getElem?_toArray, List.getElem?_cons_succ, List.getElem?_cons_zero]; rfl) (by kernel_rfl) (by kernel_rfl) (by kernel_rfl) (by exact fun _ _ _ h => h) (Or.inl ⟨by rfl, by intro w' hSw; (try dsimp only at hSw); first | (go_simp; done) | (go_simp; with_reducible rfl)⟩) hHeld ?_
    simp only [Act.put, List.setIfInBounds_toArray, List.set_cons_zero, List.set_cons_succ]
    refine wpAnyH_take (i := 5) (oi := _) (v := _) (by simp only [List.getElem?_toArray, List.getElem?_cons_succ, List.getElem?_cons_zero]; rfl) (by kernel_rfl) (by kernel_rfl) (by kernel_rfl) (by exact fun _ _ _ h => h) (Or.inl ⟨by rfl, by intro w' hSw; (try dsimp only at hSw); first | (go_simp; done) | (go_simp; with_reducible rfl)⟩) hHeld ?_
    simp only [Act.put, List.setIfInBounds_toArray, List.set_cons_zero, List.set_cons_succ]
    refine wpAnyH_take (i := 7) (oi := _) (v := _) (by simp only [List.getElem?_toArray, List.getElem?_cons_succ, List.getElem?_cons_zero]; rfl) (by kernel_rfl) (by kernel_rfl) (by kernel_rfl) (by exact fun _ _ _ h => h) (Or.inl ⟨by rfl, by intro w' hSw; (try dsimp only at hSw); first | (go_simp; done) | (go_simp; with_reducible rfl)⟩) hHeld ?_
    simp only [Act.put, List.setIfInBounds_toArray, List.set_cons_zero, List.set_cons_succ]
    refine wpAnyH_take (i := 8) (oi := _) (v := _) (by simp only [List.getElem?_toArray, List.getElem?_cons_succ, List.getElem?_cons_zero]; rfl) (by kernel_rfl) (by kernel_rfl) (by kernel_rfl) (by exact fun _ _ _ h => h) (Or.inl ⟨by rfl, by intro w' hSw; (try dsimp only at hSw); first | (go_simp; done) | (go_simp; with_reducible rfl)⟩) hHeld ?_
    simp only [Act.put, List.setIfInBounds_toArray, List.set_cons_zero, List.set_cons_succ]
    refine wpAnyH_ready (rs := [6]) (by kernel_rfl) (by simp) ?_
    refine AllReadyH.cons rfl (fun K hK => ?_) AllReadyH.nil
    go_simp
    go_wp2_with fail
    refine (HCO.out _).mono ?_
    rintro r z1 ⟨rfl, hz1⟩
    have HN1 : Hid (MAt z1 b pv ev sb lv m) := by rw [hz1]; exact HM.out.kept rfl
    have HO1 : Hid (Own b w2 z1) := by rw [hz1]; exact Own.of_below (Below.refl _ _).drew
    refine hK.out _ _ HN1.out.cKey (fun hHeld => ?_)
    clear hK K hz1
    refine wpAnyH_take (i := 9) (oi := _) (v := _) (by simp only [List.getElem?_toArray, List.getElem?_cons_succ, List.getElem?_cons_zero]; rfl) (by kernel_rfl) (by kernel_rfl) (by kernel_rfl) (by exact fun _ _ _ h => h) (Or.inl ⟨by rfl, by intro w' hSw; (try dsimp only at hSw); first | (go_simp; done) | (go_simp; with_reducible rfl)⟩) hHeld ?_
    simp only [Act.put, List.setIfInBounds_toArray, List.set_cons_zero, List.set_cons_succ]
    refine wpAnyH_ready (rs := [10]) (by kernel_rfl) (by simp) ?_
    refine AllReadyH.cons rfl (fun K hK => ?_) AllReadyH.nil
    have z21 : z1.cell? ⟨b, 21, none⟩ = some (.int .i64 (m.r 0)) := HN1.out.cReg 0 (by decide)
    have g21 := HN1.out.free 21
    go_simp
    have HN : Hid (MAt (z1.setCell ⟨b, 21, none⟩ (.int .i64 cv)) b pv ev sb lv (m.put 0 cv)) := HN1.out.sReg 0 (by decide) _
    have HO : Hid (Own b w2 (z1.setCell ⟨b, 21, none⟩ (.int .i64 cv))) := HO1.out.trans (Own.set _ _ _ _)
    refine hK.out _ _ HN.out.cKey (fun hHeld => ?_)
    clear hK K z21 g21
    refine wpAnyH_done (by kernel_rfl) ?_ _
    go_wp2
    go_ret
    rw [HF.out]
    exact ⟨rfl, HN.out, HO.out⟩
  · have HF : Hid (helpF k m = (true, { m with value := bytesF m })) := by show _ = _; unfold helpF; rw [if_neg h3, if_neg hno, if_neg h1]
    rw [HBY.out] at HF
    have e1 : (k == 1) = false := beq_eq_false_iff_ne.2 h1
    clear hmo h3 ha hno hb han hnn hr hp hall h1
    go_enter Tryd.func22, Tryd.ntmps22
    go_wp2_with fail
    refine (HMo.out _).mono ?_
    rintro r w1 ⟨rfl, hw1⟩
    subst hw1
    go_wp2_with fail
    refine (HA.out _).mono ?_
    rintro r w2 ⟨rfl, hw2⟩
    subst hw2
    go_wp2
    go_ret
    rw [HF.out]
    exact ⟨rfl, HM.out.sValue _, Own.set _ _ _ _⟩

end Go.Proofs.YtncjlcgndhodmabDoor.Rn
