/-
  CodeGets answers true for every input: the program of any bytes, or what is wrong with them; a program has these bytes alone. Condition: errors.errorType holds its handle.
-/
import Derived.Test.YtielliiadacbbaaDoorCdItems
import Derived.Test.YtielliiadacbbaaDoorCdRGet
import Derived.Test.YtielliiadacbbaaDoorCdLong
import Derived.Test.YtielliiadacbbaaDoorCdNum
import Derived.Deep.RegionHeld3
import Derived.RegionTactic
import Derived.BigRegion
namespace Go.Proofs.YtielliiadacbbaaDoor.Cd
open Go.ChangeShapes Go.WideShapes Go.ChangeAt Go.RowKit Go.Proofs.Fa
open Go.Proofs.YtielliiadacbbaaDoor.Nv (lt_of_heap lt_of_cell cell_of_heap free_of_heap)
open Go.Proofs.YtielliiadacbbaaDoor.Le (putF numF OutS num_any4 string_some errV getF leVal streq_yes)
open Go.Proofs.YtielliiadacbbaaDoor.As (ErrT)

set_option maxRecDepth 100000
set_option maxHeartbeats 2000000

/-- The cells of one of a row's instructions. -/
theorem IRow.one' {w : World} {B n : Nat} {a : Option Addr} {c : Nat} {l : List In4} (h : IRow w B (.slice a n c) l) (i : Nat) (hi : i < l.length) : ∃ g off, a = some ⟨g, off, none⟩ ∧ n ≤ c ∧ c ≤ 9223372036854775807 ∧ g < w.heap.size ∧ InCells w g (off + i * 4) l[i] := by
  rcases h.at with ⟨_, h0⟩ | ⟨g, off, cap, he, h1, h2, h3, h4⟩
  · rw [h0] at hi; cases hi
  · injection he with e1 e2 e3
    subst e1 e3
    exact ⟨g, off, rfl, by omega, h2, h3, h4 i hi⟩
theorem RRow.one' {w : World} {B n : Nat} {a : Option Addr} {c : Nat} {l : List In4} (h : RRow w B (.slice a n c) l) (i : Nat) (hi : i < l.length) : ∃ g off, a = some ⟨g, off, none⟩ ∧ n ≤ c ∧ c ≤ 9223372036854775807 ∧ g < w.heap.size ∧ InCells w g (off + i * 4) l[i] := by
  rcases h.at with ⟨_, h0⟩ | ⟨g, off, cap, he, h1, h2, h3, h4⟩
  · rw [h0] at hi; cases hi
  · injection he with e1 e2 e3
    subst e1 e3
    exact ⟨g, off, rfl, by omega, h2, h3, h4 i hi⟩

theorem codeGets_calls (s : ByteArray) (w : World) (_ : s.size ≤ maxLen) (hE : ErrT w) :
    Calls Tryd.prog 4 #[.string s] w fun e w' => e = .returned (.bool true) ∧ Below w.heap.size w w' := by
  have HE : Hid (ErrT w) := hE
  clear hE
  by_cases hz : (1100 : Int) < s.size
  · go_enter Tryd.func4, Tryd.ntmps4
    go_wp2_with fail
    refine (speaks_any w).mono ?_
    rintro e w1 ⟨rfl, hb1⟩
    go_wp2
    go_ret
    exact ⟨rfl, hb1⟩
  have hsz : s.size ≤ 100000 := by omega
  go_enter Tryd.func4, Tryd.ntmps4
  go_wp2_with fail
  refine (speaks_any w).mono ?_
  rintro e w1 ⟨rfl, hb1⟩
  have HB1 : Hid (Below w.heap.size w w1) := hb1
  clear hb1
  go_wp2_with fail
  refine (get_all s hsz w1).mono ?_
  rintro e w2 ⟨v, rfl, hg2, hb2⟩
  have HB2 : Hid (Below w.heap.size w w2) := HB1.out.trans (hb2.mono HB1.out.size)
  have HG2 : Hid (GotI w2 w1.heap.size v s) := hg2
  clear hb2 hg2 HB1
  go_wp2_with fail
  refine (rget_all s hsz w2).mono ?_
  rintro e w3 ⟨u, rfl, hg3, hb3⟩
  have HB3 : Hid (Below w.heap.size w w3) := HB2.out.trans (hb3.mono HB2.out.size)
  have HE3 : Hid (ErrT w3) := HE.out.below HB3.out HE.out.lt
  have HG3 : Hid (GotR w3 w2.heap.size u s) := hg3
  have HG2b : Hid ((getE s = 0 ∧ IRow w3 w1.heap.size v (progOf s (s.size / 8))) ∨ (getE s ≠ 0 ∧ v = .slice none 0 0)) := by
    rcases HG2.out with ⟨h1, h2⟩ | h
    · exact .inl ⟨h1, h2.below hb3⟩
    · exact .inr h
  clear hb3 hg3 HB2 HG2 hsz hz
  have hN := num_err (getE s) w3 HE3.out
  obtain ⟨E, hEE⟩ : ∃ E, getE s = E := ⟨_, rfl⟩
  have HPE : Hid (getE s = E) := hEE
  rw [hEE] at hN ⊢
  clear hEE HE3
  by_cases h0 : E = 0
  case neg =>
    have hv : v = .slice none 0 0 := by
      rcases HG2b.out with ⟨h, _⟩ | ⟨_, h⟩
      · exact absurd (HPE.out.symm.trans h) h0
      · exact h
    have hu : u = .slice none 0 0 := by
      rcases HG3.out with ⟨h, _⟩ | ⟨_, h⟩
      · exact absurd (HPE.out.symm.trans h) h0
      · exact h
    subst hv
    subst hu
    have hn0 : (E != 0) = true := by rw [bne_iff_ne]; exact h0
    clear h0
    generalize errV E = ev at *
    go_wp2_with fail
    refine hN.mono ?_
    rintro r w4 ⟨rfl, hb4⟩
    have HB4 : Hid (Below w.heap.size w w4) := HB3.out.trans (hb4.mono HB3.out.size)
    clear hb4 hN HB3
    go_wp2_with fail
    go_loopw [7] (fun iv wr => iv = .int .i64 0 ∧ Below w4.heap.size w4 wr) (fun _ _ => 0)
    case atStart => exact ⟨rfl, Below.refl _ _⟩
    case round =>
      obtain ⟨rfl, hbw⟩ := hrel
      go_wp2
      go_ret
      exact ⟨rfl, HB4.out.trans (hbw.mono HB4.out.size)⟩
  subst h0
  obtain ⟨hF, h1024, hR⟩ := getE_zero HPE.out
  obtain ⟨n, hn⟩ : ∃ n, s.size / 8 = n := ⟨_, rfl⟩
  have hs8 : s.size = 8 * n := by have := hF.1; omega
  have HR : Hid (∀ x ∈ progOf s n, RightP x) := by rw [← hn]; exact hR
  have HALL : Hid ((⟨(progB (progOf s n)).toArray⟩ : ByteArray) = s) := progB_all hs8 (fun k _ hi => hF.nought k hi)
  have hn128 : n ≤ 128 := by omega
  have HIR : Hid (IRow w3 w1.heap.size v (progOf s n)) := by
    rcases HG2b.out with ⟨_, h⟩ | ⟨h, _⟩
    · rw [hn] at h; exact h
    · exact absurd HPE.out h
  have HRR : Hid (RRow w3 w2.heap.size u (progOf s n)) := by
    rcases HG3.out with ⟨_, h⟩ | ⟨h, _⟩
    · rw [hn] at h; exact h
    · exact absurd HPE.out h
  have HLL : Hid ((progOf s n).length = n) := progOf_length s n
  clear hF h1024 hR hs8 hn HG2b HG3
  obtain ⟨va, vc, hv⟩ := HIR.out.slice
  obtain ⟨ua, uc, hu⟩ := HRR.out.slice
  rw [HLL.out] at hv hu
  subst hv
  subst hu
  generalize progOf s n = l at *
  have hq0 : ∀ x : ByteArray, (x.toList == x.toList) = true := fun x => streq_yes rfl
  generalize errV 0 = ev at *
  go_wp2_with fail
  refine hN.mono ?_
  rintro r w4 ⟨rfl, hb4⟩
  have HB4 : Hid (Below w.heap.size w w4) := HB3.out.trans (hb4.mono HB3.out.size)
  have HIR4 : Hid (IRow w4 w1.heap.size (.slice va n vc) l) := HIR.out.below hb4
  have HRR4 : Hid (RRow w4 w2.heap.size (.slice ua n uc) l) := HRR.out.below hb4
  clear hb4 hN HB3 HIR HRR
  have hnn : ((n : Int) != (n : Int)) = false := by simp
  go_wp2_with fail
  clear hnn
  go_loopw [7] (fun iv wr => ∃ i : Nat, i ≤ n ∧ iv = .int .i64 i ∧ Below w4.heap.size w4 wr) (fun iv _ => n - (intOf iv).toNat)
  case atStart => exact ⟨0, Nat.zero_le _, rfl, Below.refl _ _⟩
  case round =>
    obtain ⟨i, hi, rfl, hbw⟩ := hrel
    have HBR : Hid (Below w4.heap.size w4 wr) := hbw
    clear hbw
    by_cases hiN : i < n
    · have hiX : i < l.length := by rw [HLL.out]; exact hiN
      obtain ⟨gx, ox, ex, hxc1, hxm, hgx, hcx⟩ := HIR4.out.one' i hiX
      obtain ⟨ga, oa, ea, hac1, ham, hga, hca⟩ := HRR4.out.one' i hiX
      subst ex
      subst ea
      obtain ⟨X0, X1, X2, X3⟩ := hcx.below HBR.out hgx
      obtain ⟨A0, A1, A2, A3⟩ := hca.below HBR.out hga
      clear hcx hca
      generalize l[i] = z at *
      obtain ⟨zo, zd, zs, zi⟩ := z
      dsimp only at X0 X1 X2 X3 A0 A1 A2 A3
      go_wp2_with fail
      refine wp_region_held_drew (S := fun W => W.cell? ⟨gx, ox + i * 4, none⟩ = some (.int .i64 zo) ∧ W.cell? ⟨gx, ox + i * 4 + 1, none⟩ = some (.int .i64 zd) ∧ W.cell? ⟨gx, ox + i * 4 + 2, none⟩ = some (.int .i64 zs) ∧ W.cell? ⟨gx, ox + i * 4 + 3, none⟩ = some (.int .i64 zi) ∧ W.cell? ⟨ga, oa + i * 4, none⟩ = some (.int .i64 zo) ∧ W.cell? ⟨ga, oa + i * 4 + 1, none⟩ = some (.int .i64 zd) ∧ W.cell? ⟨ga, oa + i * 4 + 2, none⟩ = some (.int .i64 zs) ∧ W.cell? ⟨ga, oa + i * 4 + 3, none⟩ = some (.int .i64 zi)) (by kernel_rfl) (by exact ⟨X0, X1, X2, X3, A0, A1, A2, A3⟩) (fun hHeld => ?_)
      change wpAnyH _ _ _ _ _ 9 (Array.replicate 9 false) _ _
      refine wpAnyH_take (i := 0) (oi := _) (v := _) (by simp only [List.getElem?_toArray, List.getElem?_cons_zero]; rfl) (by kernel_rfl) (by kernel_rfl) (by kernel_rfl) (by exact fun _ _ _ h => h) (Or.inl ⟨by rfl, by intro w' hSw; (try dsimp only at hSw); first | (go_simp; done) | (go_simp; with_reducible rfl)⟩) hHeld ?_
      simp only [Act.put, List.setIfInBounds_toArray, List.set_cons_zero, List.set_cons_succ]
      refine wpAnyH_take (i := 1) (oi := _) (v := _) (by simp only [List.getElem?_toArray, List.getElem?_cons_succ, List.getElem?_cons_zero]; rfl) (by kernel_rfl) (by kernel_rfl) (by kernel_rfl) (by exact fun _ _ _ h => h) (Or.inl ⟨by rfl, by intro w' hSw; (try dsimp only at hSw); first | (go_simp; done) | (go_simp; with_reducible rfl)⟩) hHeld ?_
      simp only [Act.put, List.setIfInBounds_toArray, List.set_cons_zero, List.set_cons_succ]
      refine wpAnyH_take (i := 2) (oi := _) (v := _) (by simp only [List.getElem?_toArray, List.getElem?_cons_succ, List.getElem?_cons_zero]; rfl) (by kernel_rfl) (by kernel_rfl) (by kernel_rfl) (by exact fun _ _ _ h => h) (Or.inl ⟨by rfl, by intro w' hSw; (try dsimp only at hSw); first | (go_simp; done) | (go_simp; with_reducible rfl)⟩) hHeld ?_
      simp only [Act.put, List.setIfInBounds_toArray, List.set_cons_zero, List.set_cons_succ]
      refine wpAnyH_take (i := 3) (oi := _) (v := _) (by simp only [List.getElem?_toArray, List.getElem?_cons_succ, List.getElem?_cons_zero]; rfl) (by kernel_rfl) (by kernel_rfl) (by kernel_rfl) (by exact fun _ _ _ h => h) (Or.inl ⟨by rfl, by intro w' hSw; (try dsimp only at hSw); first | (go_simp; done) | (go_simp; with_reducible rfl)⟩) hHeld ?_
      simp only [Act.put, List.setIfInBounds_toArray, List.set_cons_zero, List.set_cons_succ]
      refine wpAnyH_take (i := 4) (oi := _) (v := _) (by simp only [List.getElem?_toArray, List.getElem?_cons_succ, List.getElem?_cons_zero]; rfl) (by kernel_rfl) (by kernel_rfl) (by kernel_rfl) (by exact fun _ _ _ h => h) (Or.inl ⟨by rfl, by intro w' hSw; (try dsimp only at hSw); first | (go_simp; done) | (go_simp; with_reducible rfl)⟩) hHeld ?_
      simp only [Act.put, List.setIfInBounds_toArray, List.set_cons_zero, List.set_cons_succ]
      refine wpAnyH_take (i := 5) (oi := _) (v := _) (by simp only [List.getElem?_toArray, List.getElem?_cons_succ, List.getElem?_cons_zero]; rfl) (by kernel_rfl) (by kernel_rfl) (by kernel_rfl) (by exact fun _ _ _ h => h) (Or.inl ⟨by rfl, by intro w' hSw; (try dsimp only at hSw); first | (go_simp; done) | (go_simp; with_reducible rfl)⟩) hHeld ?_
      simp only [Act.put, List.setIfInBounds_toArray, List.set_cons_zero, List.set_cons_succ]
      refine wpAnyH_take (i := 6) (oi := _) (v := _) (by simp only [List.getElem?_toArray, List.getElem?_cons_succ, List.getElem?_cons_zero]; rfl) (by kernel_rfl) (by kernel_rfl) (by kernel_rfl) (by exact fun _ _ _ h => h) (Or.inl ⟨by rfl, by intro w' hSw; (try dsimp only at hSw); first | (go_simp; done) | (go_simp; with_reducible rfl)⟩) hHeld ?_
      simp only [Act.put, List.setIfInBounds_toArray, List.set_cons_zero, List.set_cons_succ]
      refine wpAnyH_take (i := 7) (oi := _) (v := _) (by simp only [List.getElem?_toArray, List.getElem?_cons_succ, List.getElem?_cons_zero]; rfl) (by kernel_rfl) (by kernel_rfl) (by kernel_rfl) (by exact fun _ _ _ h => h) (Or.inl ⟨by rfl, by intro w' hSw; (try dsimp only at hSw); first | (go_simp; done) | (go_simp; with_reducible rfl)⟩) hHeld ?_
      simp only [Act.put, List.setIfInBounds_toArray, List.set_cons_zero, List.set_cons_succ]
      refine wpAnyH_take (i := 8) (oi := _) (v := _) (by simp only [List.getElem?_toArray, List.getElem?_cons_succ, List.getElem?_cons_zero]; rfl) (by kernel_rfl) (by kernel_rfl) (by kernel_rfl) (by exact fun _ _ _ h => h) (Or.inl ⟨by rfl, by intro w' hSw; (try dsimp only at hSw); first | (go_simp; done) | (go_simp; with_reducible rfl)⟩) hHeld ?_
      simp only [Act.put, List.setIfInBounds_toArray, List.set_cons_zero, List.set_cons_succ]
      refine wpAnyH_done (by kernel_rfl) ?_ _
      clear hHeld
      have HBD : Hid (Below w4.heap.size w4 wr.drew) := HBR.out.drew
      go_wp2_with fail
      go_roundw
      case rel => exact ⟨i + 1, by omega, by go_num, HBD.out⟩
      case measure => simp [intOf]; omega
    · have hP := put_all _ _ wr (HIR4.out.below HBR.out).at
      have he0 : putE l = 0 := putE_zero.2 ⟨by rw [HLL.out]; exact hn128, HR.out⟩
      have hps : putS l = s := by unfold putS; rw [if_pos he0]; exact HALL.out
      rw [he0, hps, Le.errV_zero] at hP
      clear he0 hps
      go_wp2_with fail
      refine hP.mono ?_
      rintro r w5 ⟨rfl, hb5⟩
      go_wp2
      go_ret
      exact ⟨rfl, (HB4.out.trans (HBR.out.mono HB4.out.size)).trans (hb5.mono (HB4.out.trans (HBR.out.mono HB4.out.size)).size)⟩

end Go.Proofs.YtielliiadacbbaaDoor.Cd
