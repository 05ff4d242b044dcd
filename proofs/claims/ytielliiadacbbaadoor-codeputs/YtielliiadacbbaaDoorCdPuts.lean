/-
  CodePuts answers true for every input: any program as bytes, or why it is none, and back. Condition: errors.errorType holds its handle.
-/
import Derived.Test.YtielliiadacbbaaDoorCdItems
import Derived.Test.YtielliiadacbbaaDoorCdRPut
import Derived.Test.YtielliiadacbbaaDoorCdApL
import Derived.Test.YtielliiadacbbaaDoorCdNum
import Derived.Deep.RegionHeld3
import Derived.RegionTactic
import Derived.BigRegion
namespace Go.Proofs.YtielliiadacbbaaDoor.Cd
open Go.ChangeShapes Go.WideShapes Go.ChangeAt Go.RowKit Go.Proofs.Fa
open Go.Proofs.YtielliiadacbbaaDoor.Nv (lt_of_heap lt_of_cell cell_of_heap free_of_heap)
open Go.Proofs.YtielliiadacbbaaDoor.Le (putF numF OutS num_any4 string_some errV getF leVal streq_yes)
open Go.Proofs.YtielliiadacbbaaDoor.As (ErrT)

set_option maxRecDepth 100000
set_option maxHeartbeats 4000000

theorem IRow.one {w : World} {B n : Nat} {a : Option Addr} {c : Nat} {l : List In4} (h : IRow w B (.slice a n c) l) (i : Nat) (hi : i < l.length) : ∃ g off, a = some ⟨g, off, none⟩ ∧ n ≤ c ∧ c ≤ 9223372036854775807 ∧ g < w.heap.size ∧ InCells w g (off + i * 4) l[i] := by
  rcases h.at with ⟨_, h0⟩ | ⟨g, off, cap, he, h1, h2, h3, h4⟩
  · rw [h0] at hi; cases hi
  · injection he with e1 e2 e3
    subst e1 e3
    exact ⟨g, off, rfl, by omega, h2, h3, h4 i hi⟩

theorem wpH_append {P : Program} {o : Oper} {a : Act} {w w' : World} {tm : Nat → Option Bool} {K : Act → World → Prop} {Q : Exit → Act → World → Prop} {s x : Operand} {t : TypeId} {v v2 v' : Value} (hwant : Region.wanted o tm = true)
    (ho : o.op = .call { callee := .builtin .append, args := #[s, x], argTypes := #[t, t] }) (hs : a.eval s = v) (hx : a.eval x = v2) (hr : (Builtin.append_ #[t, t] o.type #[v, v2]).run P w = .ok v' w') (hK : K (a.put o.dst v') w') :
    if Region.wanted o tm = true then Oper.wp P o a w K Q else K (a.put o.dst undef) w := by
  rw [if_pos hwant]
  unfold Oper.wp execOp
  simp only [ho, resolve, invoke, builtin, Sem.run_bind, Sem.run_pure, Result.andThen_ok, List.map_toArray, List.map_cons, List.map_nil, hs, hx, hr]
  exact hK

theorem codePuts_calls {H : Type} {enc : TypeId × Value → H} {sp : Nat → Bool} {held : Bool} {d0 : DataW H} {p0 : List MemPlace} (a0 : Option Addr) (len0 cap0 : Nat) (w : World)
    (ht0 : DataW.Trod enc Tryd.prog w 0 sp held 22 (.slice a0 len0 cap0) d0 p0) (hE : ErrT w) :
    Calls Tryd.prog 3 #[.slice a0 len0 cap0] w fun e w' => e = .returned (.bool true) ∧ Below w.heap.size w w' := by
  obtain ⟨L, hL0, hm0⟩ := items_of_trod ht0
  have HA : Hid (ItemsAt w a0 len0 L) := hL0
  have HE : Hid (ErrT w) := hE
  clear ht0 hL0 hE
  go_enter Tryd.func3, Tryd.ntmps3
  go_wp2_with fail
  refine (speaks_any w).mono ?_
  rintro e w1 ⟨rfl, hb1⟩
  have HB1 : Hid (Below w.heap.size w w1) := hb1
  clear hb1
  go_wp2_with fail
  go_loopw [3, 4, 5] (fun av bv iv wr => ∃ k : Nat, k ≤ len0 ∧ k ≤ 140 ∧ iv = .int .i64 k ∧ IRow wr w1.heap.size av (fst L k) ∧ RRow wr w1.heap.size bv (fst L k) ∧ Below w1.heap.size w1 wr) (fun _ _ iv _ => 140 - (intOf iv).toNat)
  case atStart => exact ⟨0, Nat.zero_le _, Nat.zero_le _, rfl, World.ownsRow_nil _ _ _ _, World.ownsRow_nil _ _ _ _, Below.refl _ _⟩
  case round =>
    obtain ⟨k, hk, hk140, rfl, hr, hq, hb⟩ := hrel
    obtain ⟨vk, rfl⟩ : ∃ x, x = wr := ⟨_, rfl⟩
    have HRA : Hid (IRow vk w1.heap.size u3 (fst L k)) := hr
    have HRB : Hid (RRow vk w1.heap.size u4 (fst L k)) := hq
    have HB : Hid (Below w1.heap.size w1 vk) := hb
    clear hr hq hb
    obtain ⟨av, ac, hav⟩ := HRA.out.slice
    obtain ⟨bv, bc, hbv⟩ := HRB.out.slice
    rw [fst_length] at hav hbv
    subst hav
    subst hbv
    have hK := ‹∀ (a : Act) (w : World), Code.wp Tryd.prog _ _ a w → _›
    have HREST := fun (x15 x16 x17 x18 x19 x20 x21 x22 : Value) => hK ⟨#[.slice a0 len0 cap0, undef, u2, .slice av k ac, .slice bv k bc, .int .i64 k, undef, undef, undef, undef, undef, undef, undef, .bool true, .bool false, x15, x16, x17, x18, x19, x20, x21, x22, u23, u24, u25, u26, u27, u28, u29, u30, u31, u32, u33, u34, u35, u36, u37, u38, u39, u40, u41, u42, u43, u44, u45, u46, u47, u48, u49, u50, u51, u52, u53, u54, u55, u56, u57, u58, u59, u60, u61, u62, u63, u64, u65, u66, u67, u68, u69, u70, u71, u72, undef, undef, undef, undef, undef, undef, undef, undef, undef, undef, undef, undef, undef, undef, undef, undef, undef, undef, undef, undef, undef, undef, undef, undef, undef, undef, undef, undef, undef, undef, undef, undef, undef, undef, undef, undef, undef, undef, undef, undef, undef, undef, undef, undef, undef, undef, undef, undef, undef, undef], []⟩ vk (by
      have hP := put_all _ _ vk HRA.out.at
      have HLL : Hid ((fst L k).length = k) := fst_length L k
      generalize fst L k = l at *
      go_wp2_with fail
      refine hP.mono ?_
      rintro r w3 ⟨rfl, hb3⟩
      have HW3 : Hid (Below w.heap.size w w3) := (HB1.out.trans (HB.out.mono HB1.out.size)).trans (hb3.mono (HB1.out.trans (HB.out.mono HB1.out.size)).size)
      have HRA3 : Hid (IRow w3 w1.heap.size (.slice av k ac) l) := HRA.out.below hb3
      have HRB3 : Hid (RRow w3 w1.heap.size (.slice bv k bc) l) := HRB.out.below hb3
      have hQ := rput_any _ _ w3 HRB3.out.at
      clear hb3 hP HRA HRB HB
      go_wp2_with fail
      refine hQ.mono ?_
      rintro r w4 ⟨rfl, hb4⟩
      have HW4 : Hid (Below w.heap.size w w4) := HW3.out.trans (hb4.mono HW3.out.size)
      have HRA4 : Hid (IRow w4 w1.heap.size (.slice av k ac) l) := HRA3.out.below hb4
      clear hb4 hQ HRA3 HRB3 HW3
      have HE4 : Hid (ErrT w4) := HE.out.below HW4.out HE.out.lt
      have hN := num_err (putE l) w4 HE4.out
      have hq0 : ∀ x : ByteArray, (x.toList == x.toList) = true := fun x => streq_yes rfl
      obtain ⟨S, hS⟩ : ∃ S, putS l = S := ⟨_, rfl⟩
      have HPS : Hid (putS l = S) := hS
      obtain ⟨E, hEE⟩ : ∃ E, putE l = E := ⟨_, rfl⟩
      have HPE : Hid (putE l = E) := hEE
      rw [hS, hEE]
      rw [hEE] at hN
      clear hS hEE HE4
      generalize errV E = ev at *
      go_wp2_with fail
      refine hN.mono ?_
      rintro r w5 ⟨rfl, hb5⟩
      have HW5 : Hid (Below w.heap.size w w5) := HW4.out.trans (hb5.mono HW4.out.size)
      have HRA5 : Hid (IRow w5 w1.heap.size (.slice av k ac) l) := HRA4.out.below hb5
      clear hb5 hN HRA4 HW4
      by_cases h0 : E = 0
      · subst h0
        obtain ⟨h128, hR⟩ := putE_zero.1 HPE.out
        have HR : Hid (∀ x ∈ l, RightP x) := hR
        have hG := fun w => get_any l hR h128 w
        have hSS : S = ⟨(progB l).toArray⟩ := by rw [← HPS.out]; unfold putS; rw [if_pos HPE.out]
        rw [← hSS] at hG
        have HG : Hid (∀ w, _) := hG
        clear hG hR hSS h128 hq0
        go_wp2_with fail
        refine (HG.out _).mono ?_
        rintro r w6 ⟨v, rfl, hr6, hb6⟩
        obtain ⟨xa, xc, hxv⟩ := hr6.slice
        rw [HLL.out] at hxv
        subst hxv
        have HW6 : Hid (Below w.heap.size w w6) := HW5.out.trans (hb6.mono HW5.out.size)
        have HRA6 : Hid (IRow w6 w1.heap.size (.slice av k ac) l) := HRA5.out.below hb6
        have HRX6 : Hid (IRow w6 w5.heap.size (.slice xa k xc) l) := hr6
        clear hb6 hr6 HG HW5 HRA5
        have hkk : ((k : Int) != (k : Int)) = false := by simp
        go_wp2_with fail
        go_loopw [12] (fun iv wr => ∃ i : Nat, i ≤ k ∧ iv = .int .i64 i ∧ Below w6.heap.size w6 wr) (fun iv _ => k - (intOf iv).toNat)
        case atStart => exact ⟨0, Nat.zero_le _, rfl, Below.refl _ _⟩
        case round =>
          obtain ⟨i, hi, rfl, hbw⟩ := hrel
          have HBR : Hid (Below w6.heap.size w6 wr) := hbw
          clear hbw
          by_cases hiN : i < k
          · have hiX : i < l.length := by rw [HLL.out]; exact hiN
            obtain ⟨gx, ox, ex, hxc1, hxm, hgx, hcx⟩ := HRX6.out.one i hiX
            obtain ⟨ga, oa, ea, hac1, ham, hga, hca⟩ := HRA6.out.one i hiX
            subst ex
            subst ea
            obtain ⟨X0, X1, X2, X3⟩ := hcx.below HBR.out hgx
            obtain ⟨A0, A1, A2, A3⟩ := hca.below HBR.out hga
            clear hcx hca
            generalize l[i] = z at *
            obtain ⟨zo, zd, zs, zi⟩ := z
            dsimp only at X0 X1 X2 X3 A0 A1 A2 A3
            go_wp2_with fail
            refine wp_region_held_drew (S := fun W => W.cell? ⟨gx, ox + i * 4, none⟩ = some (.int .i64 zo) ∧ W.cell? ⟨gx, ox + i * 4 + 1, none⟩ = some (.int .i64 zd) ∧ W.cell? ⟨gx, ox + i * 4 + 2, none⟩ = some (.int .i64 zs) ∧ W.cell? ⟨gx, ox + i * 4 + 3, none⟩ = some (.int .i64 zi) ∧ W.cell? ⟨ga, oa + i * 4, none⟩ = some (.int .i64 zo) ∧ W.cell? ⟨ga, oa + i * 4 + 1, none⟩ = some (.int .i64 zd) ∧ W.cell? ⟨ga, oa + i * 4 + 2, none⟩ = some (.int .i64 zs) ∧ W.cell? ⟨ga, oa + i * 4 + 3, none⟩ = some (.int .i64 zi)) (by kernel_rfl) (by exact ⟨X0, X1, X2, X3, A0, A1, A2, A3⟩) (fun hHeld => ?_)
            change wpAnyH _ _ _ _ _ 9 (Array.replicate 9 false) _ _
            refine wpAnyH_take (i := 0) (oi := _) (v := _) (by simp only [List.getElem?_toArray, List.getElem?_cons_zero]; rfl) (by kernel_rfl) (by kernel_rfl) (by kernel_rfl) (by exact fun _ _ _ h => h) (Or.inl ⟨by rfl, by intro w' hSw; (try dsimp only at hSw); first | (go_simp; done) | (go_simp; with_reducible rfl)⟩) hHeld ?_
            simp only [Act.put, List.setIfInBounds_toArray, List.set_cons_zero, List.set_cons_succ]
            refine wpAnyH_take (i := 1) (oi := _) (v := _) (by simp only [List.getElem?_toArray, List.getElem?_cons_succ, List.getElem?_cons_zero]; rfl) (by kernel_rfl) (by kernel_rfl) (by kernel_rfl) (by exact fun _ _ _ h => h) (Or.inl ⟨by rfl, by intro w' hSw; (try dsimp only at hSw); first | (go_simp; done) | (go_simp; with_reducible rfl)⟩) hHeld ?_
            simp only [Act.put, List.setIfInBounds_toArray, List.set_cons_zero, List.set_cons_succ]
            refine wpAnyH_take (i := 2) (oi := _) (v := _) (by simp only [List.getElem?_toArray, List.getElem?_cons_succ, List.getElem?_cons_zero]; rfl) (by kernel_rfl) (by kernel_rfl) (by kernel_rfl) (by exact fun _ _ _ h => h) (Or.inl ⟨by rfl, by intro w' hSw; (try dsimp only at hSw); first | (go_simp; done) | (go_simp; with_reducible rfl)⟩) hHeld ?_
            simp only [Act.put, List.setIfInBounds_toArray, List.set_cons_zero, List.set_cons_succ]
            refine wpAnyH_take (i := 3) (oi := _) (v := _) (by simp only [List.getElem?_toArray, List.getElem?_cons_succ, List.getElem?_cons_zero]; rfl) (by kernel_rfl) (by kernel_rfl) (by kernel_rfl) (by exact fun _ _ _ h => h) (Or.inl ⟨by rfl, by intro w' hSw; (try dsimp only at hSw); first | (go_simp; done) | (go_simp; with_reducible rfl)⟩) hHeld ?_
            simp only [Act.put, List.setIfInBounds_toArray, List.set_cons_zero, List.set_cons_succ]
            refine wpAnyH_take (i := 4) (oi := _) (v := _) (by simp only [List.getElem?_toArray, List.getElem?_cons_succ, List.getElem?_cons_zero]; rfl) (by kernel_rfl) (by kernel_rfl) (by kernel_rfl) (by exact fun _ _ _ h => h) (Or.inl ⟨by rfl, by intro w' hSw; (try dsimp only at hSw); first | (go_simp; done) | (go_simp; with_reducible rfl)⟩) hHeld ?_
            simp only [Act.put, List.setIfInBounds_toArray, List.set_cons_zero, List.set_cons_succ]
            refine wpAnyH_take (i := 5) (oi := _) (v := _) (by simp only [List.getElem?_toArray, List.getElem?_cons_succ, List.getElem?_cons_zero]; rfl) (by kernel_rfl) (by kernel_rfl) (by kernel_rfl) (by exact fun _ _ _ h => h) (Or.inl ⟨by rfl, by intro w' hSw; (try dsimp only at hSw); first | (go_simp; done) | (go_simp; with_reducible rfl)⟩) hHeld ?_
            simp only [Act.put, List.setIfInBounds_toArray, List.set_cons_zero, List.set_cons_succ]
            refine wpAnyH_take (i := 6) (oi := _) (v := _) (by simp only [List.getElem?_toArray, List.getElem?_cons_succ, List.getElem?_cons_zero]; rfl) (by kernel_rfl) (by kernel_rfl) (by kernel_rfl) (by exact fun _ _ _ h => h) (Or.inl ⟨by rfl, by intro w' hSw; (try dsimp only at hSw); first | (go_simp; done) | (go_simp; with_reducible rfl)⟩) hHeld ?_
            simp only [Act.put, List.setIfInBounds_toArray, List.set_cons_zero, List.set_cons_succ]
            refine wpAnyH_take (i := 7) (oi := _) (v := _) (by simp only [List.getElem?_toArray, List.getElem?_cons_succ, List.getElem?_cons_zero]; rfl) (by kernel_rfl) (by kernel_rfl) (by kernel_rfl) (by exact fun _ _ _ h => h) (Or.inl ⟨by rfl, by intro w' hSw; (try dsimp only at hSw); first | (go_simp; done) | (go_simp; with_reducible rfl)⟩) hHeld ?_
            simp only [Act.put, List.setIfInBounds_toArray, List.set_cons_zero, List.set_cons_succ]
            refine wpAnyH_take (i := 8) (oi := _) (v := _) (by simp only [List.getElem?_toArray, List.getElem?_cons_succ, List.getElem?_cons_zero]; rfl) (by kernel_rfl) (by kernel_rfl) (by kernel_rfl) (by exact fun _ _ _ h => h) (Or.inl ⟨by rfl, by intro w' hSw; (try dsimp only at hSw); first | (go_simp; done) | (go_simp; with_reducible rfl)⟩) hHeld ?_
            simp only [Act.put, List.setIfInBounds_toArray, List.set_cons_zero, List.set_cons_succ]
            refine wpAnyH_done (by kernel_rfl) ?_ _
            clear hHeld
            have HBD : Hid (Below w6.heap.size w6 wr.drew) := HBR.out.drew
            go_wp2_with fail
            go_roundw
            case rel => exact ⟨i + 1, by omega, by go_num, HBD.out⟩
            case measure => simp [intOf]; omega
          · go_wp2
            go_ret
            exact ⟨rfl, HW6.out.trans (HBR.out.mono HW6.out.size)⟩
      · have hn0 : (E != 0) = true := by rw [bne_iff_ne]; exact h0
        clear h0 hq0
        go_wp2
        go_ret
        exact ⟨rfl, HW5.out⟩)
    clear hK
    by_cases hlt : k < len0 ∧ k < 140
    · clear HREST
      obtain ⟨hlt1, hlt2⟩ := hlt
      obtain ⟨b0, off0, ha0, hbl0, hc0⟩ : ∃ b off, a0 = some ⟨b, off, none⟩ ∧ b < w.heap.size ∧ ∀ i, i < len0 → InCells w b (off + i * 4) (L i) := by
        rcases HA.out with h | h
        · omega
        · exact h
      subst ha0
      have HIC : Hid (∀ W, Below w1.heap.size w1 W → InCells W b0 (off0 + k * 4) (L k)) := fun W hW => (hc0 k hlt1).below (HB1.out.trans (hW.mono HB1.out.size)) hbl0
      have HFS : Hid (fst L (k + 1) = fst L k ++ [L k]) := fst_succ L k
      clear hc0
      generalize L k = x at *
      have HSL : Hid (∀ W, Below w1.heap.size w1 W → W.cell? ⟨b0, off0 + k * 4, none⟩ = some (.int .i64 x.op) ∧ W.cell? ⟨b0, off0 + k * 4 + 1, none⟩ = some (.int .i64 x.d) ∧ W.cell? ⟨b0, off0 + k * 4 + 2, none⟩ = some (.int .i64 x.s) ∧ W.cell? ⟨b0, off0 + k * 4 + 3, none⟩ = some (.int .i64 x.imm)) := fun W hW => HIC.out W hW
      obtain ⟨e0, e1, e2, e3⟩ := HSL.out vk HB.out
      go_wp2_with fail
      have hK8 := ‹∀ (a : Act) (w : World), Code.wp Tryd.prog _ _ a w → _›
      have HNEXT := fun (an bn : Option Addr) (ad bd : Nat) (W : World) (RA : Hid (IRow W w1.heap.size (.slice an (k + 1) ad) (fst L (k + 1)))) (RB : Hid (RRow W w1.heap.size (.slice bn (k + 1) bd) (fst L (k + 1)))) (HBW : Hid (Below w1.heap.size w1 W)) (x15 x16 x17 x18 x19 x20 x21 x22 x25 x26 x27 x28 x29 x30 x31 x32 x33 x34 x35 x36 x37 x38 : Value) => hK8 ⟨#[.slice (some ⟨b0, off0, none⟩) len0 cap0, undef, u2, .slice an (k + 1) ad, .slice bn (k + 1) bd, .int .i64 k, undef, undef, undef, undef, undef, undef, undef, .bool true, .bool false, x15, x16, x17, x18, x19, x20, x21, x22, u23, u24, x25, x26, x27, x28, x29, x30, x31, x32, x33, x34, x35, x36, x37, x38, u39, u40, u41, u42, u43, u44, u45, u46, u47, u48, u49, u50, u51, u52, u53, u54, u55, u56, u57, u58, u59, u60, u61, u62, u63, u64, u65, u66, u67, u68, u69, u70, u71, u72, undef, undef, undef, undef, undef, undef, undef, undef, undef, undef, undef, undef, undef, undef, undef, undef, undef, undef, undef, undef, undef, undef, undef, undef, undef, undef, undef, undef, undef, undef, undef, undef, undef, undef, undef, undef, undef, undef, undef, undef, undef, undef, undef, undef, undef, undef, undef, undef, undef, undef], []⟩ W (by
        clear hK8 e0 e1 e2 e3 HRA HRB HB
        have HRI : Hid (∀ w, _) := fun w => right_any x w
        have HRR : Hid (∀ w, _) := fun w => refr_any x w
        have HJ : Hid (∀ w, _) := fun w => jumps_any x.op w
        have BY0 : Hid (Below W.heap.size W W.drew) := (Below.refl _ _).drew
        obtain ⟨e0, e1, e2, e3⟩ := HSL.out W HBW.out
        generalize decide (RightP x) = pr at *
        by_cases hg : 12 ≤ x.op
        · have hg1 : decide ((12 : Int) ≤ x.op) = true := decide_eq_true hg
          rw [show decide (12 ≤ x.op ∧ x.op ≤ 16) = decide (x.op ≤ 16) by rw [decide_eq_decide]; exact ⟨fun h => h.2, fun h => ⟨hg, h⟩⟩] at HJ
          obtain ⟨jq, hjq⟩ : ∃ jq, decide (x.op ≤ 16) = jq := ⟨_, rfl⟩
          rw [hjq] at HJ
          clear hg
          go_wp2_with fail
          refine wp_region_held_drew (S := fun W => W.cell? ⟨b0, off0 + k * 4, none⟩ = some (.int .i64 x.op) ∧ W.cell? ⟨b0, off0 + k * 4 + 1, none⟩ = some (.int .i64 x.d) ∧ W.cell? ⟨b0, off0 + k * 4 + 2, none⟩ = some (.int .i64 x.s) ∧ W.cell? ⟨b0, off0 + k * 4 + 3, none⟩ = some (.int .i64 x.imm)) (by kernel_rfl) (by exact ⟨e0, e1, e2, e3⟩) (fun hHeld => ?_)
          change wpAnyH _ _ _ _ _ 34 (Array.replicate 34 false) _ _
          refine wpAnyH_take (i := 0) (oi := _) (v := _) (by simp only [List.getElem?_toArray, List.getElem?_cons_zero]; rfl) (by kernel_rfl) (by kernel_rfl) (by kernel_rfl) (by exact fun _ _ _ h => h) (Or.inl ⟨by rfl, by intro w' hSw; (try dsimp only at hSw); first | (go_simp; done) | (go_simp; with_reducible rfl)⟩) hHeld ?_
          simp only [Act.put, List.setIfInBounds_toArray, List.set_cons_zero, List.set_cons_succ]
          refine wpAnyH_take (i := 1) (oi := _) (v := _) (by simp only [List.getElem?_toArray, List.getElem?_cons_succ, List.getElem?_cons_zero]; rfl) (by kernel_rfl) (by kernel_rfl) (by kernel_rfl) (by exact fun _ _ _ h => h) (Or.inl ⟨by rfl, by intro w' hSw; (try dsimp only at hSw); first | (go_simp; done) | (go_simp; with_reducible rfl)⟩) hHeld ?_
          simp only [Act.put, List.setIfInBounds_toArray, List.set_cons_zero, List.set_cons_succ]
          refine wpAnyH_take (i := 2) (oi := _) (v := _) (by simp only [List.getElem?_toArray, List.getElem?_cons_succ, List.getElem?_cons_zero]; rfl) (by kernel_rfl) (by kernel_rfl) (by kernel_rfl) (by exact fun _ _ _ h => h) (Or.inl ⟨by rfl, by intro w' hSw; (try dsimp only at hSw); first | (go_simp; done) | (go_simp; with_reducible rfl)⟩) hHeld ?_
          simp only [Act.put, List.setIfInBounds_toArray, List.set_cons_zero, List.set_cons_succ]
          refine wpAnyH_take (i := 3) (oi := _) (v := _) (by simp only [List.getElem?_toArray, List.getElem?_cons_succ, List.getElem?_cons_zero]; rfl) (by kernel_rfl) (by kernel_rfl) (by kernel_rfl) (by exact fun _ _ _ h => h) (Or.inl ⟨by rfl, by intro w' hSw; (try dsimp only at hSw); first | (go_simp; done) | (go_simp; with_reducible rfl)⟩) hHeld ?_
          simp only [Act.put, List.setIfInBounds_toArray, List.set_cons_zero, List.set_cons_succ]
          refine wpAnyH_take (i := 5) (oi := _) (v := _) (by simp only [List.getElem?_toArray, List.getElem?_cons_succ, List.getElem?_cons_zero]; rfl) (by kernel_rfl) (by kernel_rfl) (by kernel_rfl) (by exact fun _ _ _ h => h) (Or.inl ⟨by rfl, by intro w' hSw; (try dsimp only at hSw); first | (go_simp; done) | (go_simp; with_reducible rfl)⟩) hHeld ?_
          simp only [Act.put, List.setIfInBounds_toArray, List.set_cons_zero, List.set_cons_succ]
          refine wpAnyH_take (i := 6) (oi := _) (v := _) (by simp only [List.getElem?_toArray, List.getElem?_cons_succ, List.getElem?_cons_zero]; rfl) (by kernel_rfl) (by kernel_rfl) (by kernel_rfl) (by exact fun _ _ _ h => h) (Or.inl ⟨by rfl, by intro w' hSw; (try dsimp only at hSw); first | (go_simp; done) | (go_simp; with_reducible rfl)⟩) hHeld ?_
          simp only [Act.put, List.setIfInBounds_toArray, List.set_cons_zero, List.set_cons_succ]
          refine wpAnyH_take (i := 7) (oi := _) (v := _) (by simp only [List.getElem?_toArray, List.getElem?_cons_succ, List.getElem?_cons_zero]; rfl) (by kernel_rfl) (by kernel_rfl) (by kernel_rfl) (by exact fun _ _ _ h => h) (Or.inl ⟨by rfl, by intro w' hSw; (try dsimp only at hSw); first | (go_simp; done) | (go_simp; with_reducible rfl)⟩) hHeld ?_
          simp only [Act.put, List.setIfInBounds_toArray, List.set_cons_zero, List.set_cons_succ]
          refine wpAnyH_take (i := 8) (oi := _) (v := _) (by simp only [List.getElem?_toArray, List.getElem?_cons_succ, List.getElem?_cons_zero]; rfl) (by kernel_rfl) (by kernel_rfl) (by kernel_rfl) (by exact fun _ _ _ h => h) (Or.inl ⟨by rfl, by intro w' hSw; (try dsimp only at hSw); first | (go_simp; done) | (go_simp; with_reducible rfl)⟩) hHeld ?_
          simp only [Act.put, List.setIfInBounds_toArray, List.set_cons_zero, List.set_cons_succ]
          refine wpAnyH_ready (rs := [4]) (by kernel_rfl) (by simp) ?_
          refine AllReadyH.cons rfl (fun K hK => ?_) AllReadyH.nil
          go_simp
          go_wp2_with fail
          refine (HRI.out _).mono ?_
          rintro r y1 ⟨rfl, hy1⟩
          have BY1 : Hid (Below W.heap.size W y1) := BY0.out.trans (hy1.mono BY0.out.size)
          refine hK.out _ _ (HSL.out _ (HBW.out.trans (BY1.out.mono HBW.out.size))) (fun hHeld => ?_)
          clear hK K hy1
          refine wpAnyH_ready (rs := [9]) (by kernel_rfl) (by simp) ?_
          refine AllReadyH.cons rfl (fun K hK => ?_) AllReadyH.nil
          go_simp
          go_wp2_with fail
          refine (HRR.out _).mono ?_
          rintro r y2 ⟨rfl, hy2⟩
          have BY2 : Hid (Below W.heap.size W y2) := BY1.out.trans (hy2.mono BY1.out.size)
          refine hK.out _ _ (HSL.out _ (HBW.out.trans (BY2.out.mono HBW.out.size))) (fun hHeld => ?_)
          clear hK K hy2
          refine wpAnyH_take (i := 10) (oi := _) (v := _) (by simp only [List.getElem?_toArray, List.getElem?_cons_succ, List.getElem?_cons_zero]; rfl) (by kernel_rfl) (by kernel_rfl) (by kernel_rfl) (by exact fun _ _ _ h => h) (Or.inl ⟨by rfl, by intro w' hSw; (try dsimp only at hSw); first | (go_simp; done) | (go_simp; with_reducible rfl)⟩) hHeld ?_
          simp only [Act.put, List.setIfInBounds_toArray, List.set_cons_zero, List.set_cons_succ]
          refine wpAnyH_take (i := 11) (oi := _) (v := _) (by simp only [List.getElem?_toArray, List.getElem?_cons_succ, List.getElem?_cons_zero]; rfl) (by kernel_rfl) (by kernel_rfl) (by kernel_rfl) (by exact fun _ _ _ h => h) (Or.inl ⟨by rfl, by intro w' hSw; (try dsimp only at hSw); first | (go_simp; done) | (go_simp; with_reducible rfl)⟩) hHeld ?_
          simp only [Act.put, List.setIfInBounds_toArray, List.set_cons_zero, List.set_cons_succ]
          refine wpAnyH_take (i := 12) (oi := _) (v := _) (by simp only [List.getElem?_toArray, List.getElem?_cons_succ, List.getElem?_cons_zero]; rfl) (by kernel_rfl) (by kernel_rfl) (by kernel_rfl) (by exact fun _ _ _ h => h) (Or.inl ⟨by rfl, by intro w' hSw; (try dsimp only at hSw); first | (go_simp; done) | (go_simp; with_reducible rfl)⟩) hHeld ?_
          simp only [Act.put, List.setIfInBounds_toArray, List.set_cons_zero, List.set_cons_succ]
          refine wpAnyH_take (i := 13) (oi := _) (v := _) (by simp only [List.getElem?_toArray, List.getElem?_cons_succ, List.getElem?_cons_zero]; rfl) (by kernel_rfl) (by kernel_rfl) (by kernel_rfl) (by exact fun _ _ _ h => h) (Or.inl ⟨by rfl, by intro w' hSw; (try dsimp only at hSw); first | (go_simp; done) | (go_simp; with_reducible rfl)⟩) hHeld ?_
          simp only [Act.put, List.setIfInBounds_toArray, List.set_cons_zero, List.set_cons_succ]
          refine wpAnyH_take (i := 14) (oi := _) (v := _) (by simp only [List.getElem?_toArray, List.getElem?_cons_succ, List.getElem?_cons_zero]; rfl) (by kernel_rfl) (by kernel_rfl) (by kernel_rfl) (by exact fun _ _ _ h => h) (Or.inl ⟨by rfl, by intro w' hSw; (try dsimp only at hSw); first | (go_simp; done) | (go_simp; with_reducible rfl)⟩) hHeld ?_
          simp only [Act.put, List.setIfInBounds_toArray, List.set_cons_zero, List.set_cons_succ]
          refine wpAnyH_take (i := 15) (oi := _) (v := _) (by simp only [List.getElem?_toArray, List.getElem?_cons_succ, List.getElem?_cons_zero]; rfl) (by kernel_rfl) (by kernel_rfl) (by kernel_rfl) (by exact fun _ _ _ h => h) (Or.inl ⟨by rfl, by intro w' hSw; (try dsimp only at hSw); first | (go_simp; done) | (go_simp; with_reducible rfl)⟩) hHeld ?_
          simp only [Act.put, List.setIfInBounds_toArray, List.set_cons_zero, List.set_cons_succ]
          refine wpAnyH_take (i := 16) (oi := _) (v := _) (by simp only [List.getElem?_toArray, List.getElem?_cons_succ, List.getElem?_cons_zero]; rfl) (by kernel_rfl) (by kernel_rfl) (by kernel_rfl) (by exact fun _ _ _ h => h) (Or.inl ⟨by rfl, by intro w' hSw; (try dsimp only at hSw); first | (go_simp; done) | (go_simp; with_reducible rfl)⟩) hHeld ?_
          simp only [Act.put, List.setIfInBounds_toArray, List.set_cons_zero, List.set_cons_succ]
          refine wpAnyH_take (i := 18) (oi := _) (v := _) (by simp only [List.getElem?_toArray, List.getElem?_cons_succ, List.getElem?_cons_zero]; rfl) (by kernel_rfl) (by kernel_rfl) (by kernel_rfl) (by exact fun _ _ _ h => h) (Or.inl ⟨by rfl, by intro w' hSw; (try dsimp only at hSw); first | (go_simp; done) | (go_simp; with_reducible rfl)⟩) hHeld ?_
          simp only [Act.put, List.setIfInBounds_toArray, List.set_cons_zero, List.set_cons_succ]
          refine wpAnyH_take (i := 19) (oi := _) (v := _) (by simp only [List.getElem?_toArray, List.getElem?_cons_succ, List.getElem?_cons_zero]; rfl) (by kernel_rfl) (by kernel_rfl) (by kernel_rfl) (by exact fun _ _ _ h => h) (Or.inl ⟨by rfl, by intro w' hSw; (try dsimp only at hSw); first | (go_simp; done) | (go_simp; with_reducible rfl)⟩) hHeld ?_
          simp only [Act.put, List.setIfInBounds_toArray, List.set_cons_zero, List.set_cons_succ]
          refine wpAnyH_take (i := 20) (oi := _) (v := _) (by simp only [List.getElem?_toArray, List.getElem?_cons_succ, List.getElem?_cons_zero]; rfl) (by kernel_rfl) (by kernel_rfl) (by kernel_rfl) (by exact fun _ _ _ h => h) (Or.inl ⟨by rfl, by intro w' hSw; (try dsimp only at hSw); first | (go_simp; done) | (go_simp; with_reducible rfl)⟩) hHeld ?_
          simp only [Act.put, List.setIfInBounds_toArray, List.set_cons_zero, List.set_cons_succ]
          refine wpAnyH_take (i := 21) (oi := _) (v := _) (by simp only [List.getElem?_toArray, List.getElem?_cons_succ, List.getElem?_cons_zero]; rfl) (by kernel_rfl) (by kernel_rfl) (by kernel_rfl) (by exact fun _ _ _ h => h) (Or.inl ⟨by rfl, by intro w' hSw; (try dsimp only at hSw); first | (go_simp; done) | (go_simp; with_reducible rfl)⟩) hHeld ?_
          simp only [Act.put, List.setIfInBounds_toArray, List.set_cons_zero, List.set_cons_succ]
          refine wpAnyH_take (i := 22) (oi := _) (v := _) (by simp only [List.getElem?_toArray, List.getElem?_cons_succ, List.getElem?_cons_zero]; rfl) (by kernel_rfl) (by kernel_rfl) (by kernel_rfl) (by exact fun _ _ _ h => h) (Or.inl ⟨by rfl, by intro w' hSw; (try dsimp only at hSw); first | (go_simp; done) | (go_simp; with_reducible rfl)⟩) hHeld ?_
          simp only [Act.put, List.setIfInBounds_toArray, List.set_cons_zero, List.set_cons_succ]
          refine wpAnyH_take (i := 23) (oi := _) (v := _) (by simp only [List.getElem?_toArray, List.getElem?_cons_succ, List.getElem?_cons_zero]; rfl) (by kernel_rfl) (by kernel_rfl) (by kernel_rfl) (by exact fun _ _ _ h => h) (Or.inl ⟨by rfl, by intro w' hSw; (try dsimp only at hSw); first | (go_simp; done) | (go_simp; with_reducible rfl)⟩) hHeld ?_
          simp only [Act.put, List.setIfInBounds_toArray, List.set_cons_zero, List.set_cons_succ]
          refine wpAnyH_ready (rs := [17]) (by kernel_rfl) (by simp) ?_
          refine AllReadyH.cons rfl (fun K hK => ?_) AllReadyH.nil
          go_simp
          go_wp2_with fail
          refine (HJ.out _).mono ?_
          rintro r y3 ⟨rfl, hy3⟩
          have BY3 : Hid (Below W.heap.size W y3) := by rw [hy3]; exact BY2.out
          refine hK.out _ _ (HSL.out _ (HBW.out.trans (BY3.out.mono HBW.out.size))) (fun hHeld => ?_)
          clear hK K hy3
          refine wpAnyH_take (i := 24) (oi := _) (v := _) (by simp only [List.getElem?_toArray, List.getElem?_cons_succ, List.getElem?_cons_zero]; rfl) (by kernel_rfl) (by kernel_rfl) (by kernel_rfl) (by exact fun _ _ _ h => h) (Or.inl ⟨by rfl, by intro w' hSw; (try dsimp only at hSw); first | (go_simp; done) | (go_simp; with_reducible rfl)⟩) hHeld ?_
          simp only [Act.put, List.setIfInBounds_toArray, List.set_cons_zero, List.set_cons_succ]
          refine wpAnyH_take (i := 25) (oi := _) (v := _) (by simp only [List.getElem?_toArray, List.getElem?_cons_succ, List.getElem?_cons_zero]; rfl) (by kernel_rfl) (by kernel_rfl) (by kernel_rfl) (by exact fun _ _ _ h => h) (Or.inl ⟨by rfl, by intro w' hSw; (try dsimp only at hSw); first | (go_simp; done) | (go_simp; with_reducible rfl)⟩) hHeld ?_
          simp only [Act.put, List.setIfInBounds_toArray, List.set_cons_zero, List.set_cons_succ]
          refine wpAnyH_take (i := 26) (oi := _) (v := _) (by simp only [List.getElem?_toArray, List.getElem?_cons_succ, List.getElem?_cons_zero]; rfl) (by kernel_rfl) (by kernel_rfl) (by kernel_rfl) (by exact fun _ _ _ h => h) (Or.inl ⟨by rfl, by intro w' hSw; (try dsimp only at hSw); first | (go_simp; done) | (go_simp; with_reducible rfl)⟩) hHeld ?_
          simp only [Act.put, List.setIfInBounds_toArray, List.set_cons_zero, List.set_cons_succ]
          refine wpAnyH_take (i := 27) (oi := _) (v := _) (by simp only [List.getElem?_toArray, List.getElem?_cons_succ, List.getElem?_cons_zero]; rfl) (by kernel_rfl) (by kernel_rfl) (by kernel_rfl) (by exact fun _ _ _ h => h) (Or.inl ⟨by rfl, by intro w' hSw; (try dsimp only at hSw); first | (go_simp; done) | (go_simp; with_reducible rfl)⟩) hHeld ?_
          simp only [Act.put, List.setIfInBounds_toArray, List.set_cons_zero, List.set_cons_succ]
          refine wpAnyH_take (i := 28) (oi := _) (v := _) (by simp only [List.getElem?_toArray, List.getElem?_cons_succ, List.getElem?_cons_zero]; rfl) (by kernel_rfl) (by kernel_rfl) (by kernel_rfl) (by exact fun _ _ _ h => h) (Or.inl ⟨by rfl, by intro w' hSw; (try dsimp only at hSw); first | (go_simp; done) | (go_simp; with_reducible rfl)⟩) hHeld ?_
          simp only [Act.put, List.setIfInBounds_toArray, List.set_cons_zero, List.set_cons_succ]
          refine wpAnyH_take (i := 29) (oi := _) (v := _) (by simp only [List.getElem?_toArray, List.getElem?_cons_succ, List.getElem?_cons_zero]; rfl) (by kernel_rfl) (by kernel_rfl) (by kernel_rfl) (by exact fun _ _ _ h => h) (Or.inl ⟨by rfl, by intro w' hSw; (try dsimp only at hSw); first | (go_simp; done) | (go_simp; with_reducible rfl)⟩) hHeld ?_
          simp only [Act.put, List.setIfInBounds_toArray, List.set_cons_zero, List.set_cons_succ]
          refine wpAnyH_take (i := 30) (oi := _) (v := _) (by simp only [List.getElem?_toArray, List.getElem?_cons_succ, List.getElem?_cons_zero]; rfl) (by kernel_rfl) (by kernel_rfl) (by kernel_rfl) (by exact fun _ _ _ h => h) (Or.inl ⟨by rfl, by intro w' hSw; (try dsimp only at hSw); first | (go_simp; done) | (go_simp; with_reducible rfl)⟩) hHeld ?_
          simp only [Act.put, List.setIfInBounds_toArray, List.set_cons_zero, List.set_cons_succ]
          refine wpAnyH_take (i := 31) (oi := _) (v := _) (by simp only [List.getElem?_toArray, List.getElem?_cons_succ, List.getElem?_cons_zero]; rfl) (by kernel_rfl) (by kernel_rfl) (by kernel_rfl) (by exact fun _ _ _ h => h) (Or.inl ⟨by rfl, by intro w' hSw; (try dsimp only at hSw); first | (go_simp; done) | (go_simp; with_reducible rfl)⟩) hHeld ?_
          simp only [Act.put, List.setIfInBounds_toArray, List.set_cons_zero, List.set_cons_succ]
          refine wpAnyH_take (i := 32) (oi := _) (v := _) (by simp only [List.getElem?_toArray, List.getElem?_cons_succ, List.getElem?_cons_zero]; rfl) (by kernel_rfl) (by kernel_rfl) (by kernel_rfl) (by exact fun _ _ _ h => h) (Or.inl ⟨by rfl, by intro w' hSw; (try dsimp only at hSw); first | (go_simp; done) | (go_simp; with_reducible rfl)⟩) hHeld ?_
          simp only [Act.put, List.setIfInBounds_toArray, List.set_cons_zero, List.set_cons_succ]
          refine wpAnyH_take (i := 33) (oi := _) (v := _) (by simp only [List.getElem?_toArray, List.getElem?_cons_succ, List.getElem?_cons_zero]; rfl) (by kernel_rfl) (by kernel_rfl) (by kernel_rfl) (by exact fun _ _ _ h => h) (Or.inl ⟨by rfl, by intro w' hSw; (try dsimp only at hSw); first | (go_simp; done) | (go_simp; with_reducible rfl)⟩) hHeld ?_
          simp only [Act.put, List.setIfInBounds_toArray, List.set_cons_zero, List.set_cons_succ]
          refine wpAnyH_done (by kernel_rfl) ?_ _
          clear hHeld
          go_wp2_with fail
          go_roundw
          case rel => exact ⟨k + 1, by omega, by omega, by go_num, RA.out.below BY3.out, RB.out.below BY3.out, HBW.out.trans (BY3.out.mono HBW.out.size)⟩
          case measure => simp [intOf]; omega
        · have hg1 : decide ((12 : Int) ≤ x.op) = false := decide_eq_false hg
          rw [show decide (12 ≤ x.op ∧ x.op ≤ 16) = false from decide_eq_false (fun h => hg h.1)] at HJ
          clear hg
          go_wp2_with fail
          refine wp_region_held_drew (S := fun W => W.cell? ⟨b0, off0 + k * 4, none⟩ = some (.int .i64 x.op) ∧ W.cell? ⟨b0, off0 + k * 4 + 1, none⟩ = some (.int .i64 x.d) ∧ W.cell? ⟨b0, off0 + k * 4 + 2, none⟩ = some (.int .i64 x.s) ∧ W.cell? ⟨b0, off0 + k * 4 + 3, none⟩ = some (.int .i64 x.imm)) (by kernel_rfl) (by exact ⟨e0, e1, e2, e3⟩) (fun hHeld => ?_)
          change wpAnyH _ _ _ _ _ 34 (Array.replicate 34 false) _ _
          refine wpAnyH_take (i := 0) (oi := _) (v := _) (by simp only [List.getElem?_toArray, List.getElem?_cons_zero]; rfl) (by kernel_rfl) (by kernel_rfl) (by kernel_rfl) (by exact fun _ _ _ h => h) (Or.inl ⟨by rfl, by intro w' hSw; (try dsimp only at hSw); first | (go_simp; done) | (go_simp; with_reducible rfl)⟩) hHeld ?_
          simp only [Act.put, List.setIfInBounds_toArray, List.set_cons_zero, List.set_cons_succ]
          refine wpAnyH_take (i := 1) (oi := _) (v := _) (by simp only [List.getElem?_toArray, List.getElem?_cons_succ, List.getElem?_cons_zero]; rfl) (by kernel_rfl) (by kernel_rfl) (by kernel_rfl) (by exact fun _ _ _ h => h) (Or.inl ⟨by rfl, by intro w' hSw; (try dsimp only at hSw); first | (go_simp; done) | (go_simp; with_reducible rfl)⟩) hHeld ?_
          simp only [Act.put, List.setIfInBounds_toArray, List.set_cons_zero, List.set_cons_succ]
          refine wpAnyH_take (i := 2) (oi := _) (v := _) (by simp only [List.getElem?_toArray, List.getElem?_cons_succ, List.getElem?_cons_zero]; rfl) (by kernel_rfl) (by kernel_rfl) (by kernel_rfl) (by exact fun _ _ _ h => h) (Or.inl ⟨by rfl, by intro w' hSw; (try dsimp only at hSw); first | (go_simp; done) | (go_simp; with_reducible rfl)⟩) hHeld ?_
          simp only [Act.put, List.setIfInBounds_toArray, List.set_cons_zero, List.set_cons_succ]
          refine wpAnyH_take (i := 3) (oi := _) (v := _) (by simp only [List.getElem?_toArray, List.getElem?_cons_succ, List.getElem?_cons_zero]; rfl) (by kernel_rfl) (by kernel_rfl) (by kernel_rfl) (by exact fun _ _ _ h => h) (Or.inl ⟨by rfl, by intro w' hSw; (try dsimp only at hSw); first | (go_simp; done) | (go_simp; with_reducible rfl)⟩) hHeld ?_
          simp only [Act.put, List.setIfInBounds_toArray, List.set_cons_zero, List.set_cons_succ]
          refine wpAnyH_take (i := 5) (oi := _) (v := _) (by simp only [List.getElem?_toArray, List.getElem?_cons_succ, List.getElem?_cons_zero]; rfl) (by kernel_rfl) (by kernel_rfl) (by kernel_rfl) (by exact fun _ _ _ h => h) (Or.inl ⟨by rfl, by intro w' hSw; (try dsimp only at hSw); first | (go_simp; done) | (go_simp; with_reducible rfl)⟩) hHeld ?_
          simp only [Act.put, List.setIfInBounds_toArray, List.set_cons_zero, List.set_cons_succ]
          refine wpAnyH_take (i := 6) (oi := _) (v := _) (by simp only [List.getElem?_toArray, List.getElem?_cons_succ, List.getElem?_cons_zero]; rfl) (by kernel_rfl) (by kernel_rfl) (by kernel_rfl) (by exact fun _ _ _ h => h) (Or.inl ⟨by rfl, by intro w' hSw; (try dsimp only at hSw); first | (go_simp; done) | (go_simp; with_reducible rfl)⟩) hHeld ?_
          simp only [Act.put, List.setIfInBounds_toArray, List.set_cons_zero, List.set_cons_succ]
          refine wpAnyH_take (i := 7) (oi := _) (v := _) (by simp only [List.getElem?_toArray, List.getElem?_cons_succ, List.getElem?_cons_zero]; rfl) (by kernel_rfl) (by kernel_rfl) (by kernel_rfl) (by exact fun _ _ _ h => h) (Or.inl ⟨by rfl, by intro w' hSw; (try dsimp only at hSw); first | (go_simp; done) | (go_simp; with_reducible rfl)⟩) hHeld ?_
          simp only [Act.put, List.setIfInBounds_toArray, List.set_cons_zero, List.set_cons_succ]
          refine wpAnyH_take (i := 8) (oi := _) (v := _) (by simp only [List.getElem?_toArray, List.getElem?_cons_succ, List.getElem?_cons_zero]; rfl) (by kernel_rfl) (by kernel_rfl) (by kernel_rfl) (by exact fun _ _ _ h => h) (Or.inl ⟨by rfl, by intro w' hSw; (try dsimp only at hSw); first | (go_simp; done) | (go_simp; with_reducible rfl)⟩) hHeld ?_
          simp only [Act.put, List.setIfInBounds_toArray, List.set_cons_zero, List.set_cons_succ]
          refine wpAnyH_ready (rs := [4]) (by kernel_rfl) (by simp) ?_
          refine AllReadyH.cons rfl (fun K hK => ?_) AllReadyH.nil
          go_simp
          go_wp2_with fail
          refine (HRI.out _).mono ?_
          rintro r y1 ⟨rfl, hy1⟩
          have BY1 : Hid (Below W.heap.size W y1) := BY0.out.trans (hy1.mono BY0.out.size)
          refine hK.out _ _ (HSL.out _ (HBW.out.trans (BY1.out.mono HBW.out.size))) (fun hHeld => ?_)
          clear hK K hy1
          refine wpAnyH_ready (rs := [9]) (by kernel_rfl) (by simp) ?_
          refine AllReadyH.cons rfl (fun K hK => ?_) AllReadyH.nil
          go_simp
          go_wp2_with fail
          refine (HRR.out _).mono ?_
          rintro r y2 ⟨rfl, hy2⟩
          have BY2 : Hid (Below W.heap.size W y2) := BY1.out.trans (hy2.mono BY1.out.size)
          refine hK.out _ _ (HSL.out _ (HBW.out.trans (BY2.out.mono HBW.out.size))) (fun hHeld => ?_)
          clear hK K hy2
          refine wpAnyH_take (i := 10) (oi := _) (v := _) (by simp only [List.getElem?_toArray, List.getElem?_cons_succ, List.getElem?_cons_zero]; rfl) (by kernel_rfl) (by kernel_rfl) (by kernel_rfl) (by exact fun _ _ _ h => h) (Or.inl ⟨by rfl, by intro w' hSw; (try dsimp only at hSw); first | (go_simp; done) | (go_simp; with_reducible rfl)⟩) hHeld ?_
          simp only [Act.put, List.setIfInBounds_toArray, List.set_cons_zero, List.set_cons_succ]
          refine wpAnyH_take (i := 11) (oi := _) (v := _) (by simp only [List.getElem?_toArray, List.getElem?_cons_succ, List.getElem?_cons_zero]; rfl) (by kernel_rfl) (by kernel_rfl) (by kernel_rfl) (by exact fun _ _ _ h => h) (Or.inl ⟨by rfl, by intro w' hSw; (try dsimp only at hSw); first | (go_simp; done) | (go_simp; with_reducible rfl)⟩) hHeld ?_
          simp only [Act.put, List.setIfInBounds_toArray, List.set_cons_zero, List.set_cons_succ]
          refine wpAnyH_take (i := 12) (oi := _) (v := _) (by simp only [List.getElem?_toArray, List.getElem?_cons_succ, List.getElem?_cons_zero]; rfl) (by kernel_rfl) (by kernel_rfl) (by kernel_rfl) (by exact fun _ _ _ h => h) (Or.inl ⟨by rfl, by intro w' hSw; (try dsimp only at hSw); first | (go_simp; done) | (go_simp; with_reducible rfl)⟩) hHeld ?_
          simp only [Act.put, List.setIfInBounds_toArray, List.set_cons_zero, List.set_cons_succ]
          refine wpAnyH_take (i := 13) (oi := _) (v := _) (by simp only [List.getElem?_toArray, List.getElem?_cons_succ, List.getElem?_cons_zero]; rfl) (by kernel_rfl) (by kernel_rfl) (by kernel_rfl) (by exact fun _ _ _ h => h) (Or.inl ⟨by rfl, by intro w' hSw; (try dsimp only at hSw); first | (go_simp; done) | (go_simp; with_reducible rfl)⟩) hHeld ?_
          simp only [Act.put, List.setIfInBounds_toArray, List.set_cons_zero, List.set_cons_succ]
          refine wpAnyH_take (i := 14) (oi := _) (v := _) (by simp only [List.getElem?_toArray, List.getElem?_cons_succ, List.getElem?_cons_zero]; rfl) (by kernel_rfl) (by kernel_rfl) (by kernel_rfl) (by exact fun _ _ _ h => h) (Or.inl ⟨by rfl, by intro w' hSw; (try dsimp only at hSw); first | (go_simp; done) | (go_simp; with_reducible rfl)⟩) hHeld ?_
          simp only [Act.put, List.setIfInBounds_toArray, List.set_cons_zero, List.set_cons_succ]
          refine wpAnyH_take (i := 15) (oi := _) (v := _) (by simp only [List.getElem?_toArray, List.getElem?_cons_succ, List.getElem?_cons_zero]; rfl) (by kernel_rfl) (by kernel_rfl) (by kernel_rfl) (by exact fun _ _ _ h => h) (Or.inl ⟨by rfl, by intro w' hSw; (try dsimp only at hSw); first | (go_simp; done) | (go_simp; with_reducible rfl)⟩) hHeld ?_
          simp only [Act.put, List.setIfInBounds_toArray, List.set_cons_zero, List.set_cons_succ]
          refine wpAnyH_take (i := 16) (oi := _) (v := _) (by simp only [List.getElem?_toArray, List.getElem?_cons_succ, List.getElem?_cons_zero]; rfl) (by kernel_rfl) (by kernel_rfl) (by kernel_rfl) (by exact fun _ _ _ h => h) (Or.inl ⟨by rfl, by intro w' hSw; (try dsimp only at hSw); first | (go_simp; done) | (go_simp; with_reducible rfl)⟩) hHeld ?_
          simp only [Act.put, List.setIfInBounds_toArray, List.set_cons_zero, List.set_cons_succ]
          refine wpAnyH_take (i := 18) (oi := _) (v := _) (by simp only [List.getElem?_toArray, List.getElem?_cons_succ, List.getElem?_cons_zero]; rfl) (by kernel_rfl) (by kernel_rfl) (by kernel_rfl) (by exact fun _ _ _ h => h) (Or.inl ⟨by rfl, by intro w' hSw; (try dsimp only at hSw); first | (go_simp; done) | (go_simp; with_reducible rfl)⟩) hHeld ?_
          simp only [Act.put, List.setIfInBounds_toArray, List.set_cons_zero, List.set_cons_succ]
          refine wpAnyH_take (i := 19) (oi := _) (v := _) (by simp only [List.getElem?_toArray, List.getElem?_cons_succ, List.getElem?_cons_zero]; rfl) (by kernel_rfl) (by kernel_rfl) (by kernel_rfl) (by exact fun _ _ _ h => h) (Or.inl ⟨by rfl, by intro w' hSw; (try dsimp only at hSw); first | (go_simp; done) | (go_simp; with_reducible rfl)⟩) hHeld ?_
          simp only [Act.put, List.setIfInBounds_toArray, List.set_cons_zero, List.set_cons_succ]
          refine wpAnyH_take (i := 20) (oi := _) (v := _) (by simp only [List.getElem?_toArray, List.getElem?_cons_succ, List.getElem?_cons_zero]; rfl) (by kernel_rfl) (by kernel_rfl) (by kernel_rfl) (by exact fun _ _ _ h => h) (Or.inl ⟨by rfl, by intro w' hSw; (try dsimp only at hSw); first | (go_simp; done) | (go_simp; with_reducible rfl)⟩) hHeld ?_
          simp only [Act.put, List.setIfInBounds_toArray, List.set_cons_zero, List.set_cons_succ]
          refine wpAnyH_take (i := 21) (oi := _) (v := _) (by simp only [List.getElem?_toArray, List.getElem?_cons_succ, List.getElem?_cons_zero]; rfl) (by kernel_rfl) (by kernel_rfl) (by kernel_rfl) (by exact fun _ _ _ h => h) (Or.inl ⟨by rfl, by intro w' hSw; (try dsimp only at hSw); first | (go_simp; done) | (go_simp; with_reducible rfl)⟩) hHeld ?_
          simp only [Act.put, List.setIfInBounds_toArray, List.set_cons_zero, List.set_cons_succ]
          refine wpAnyH_take (i := 22) (oi := _) (v := _) (by simp only [List.getElem?_toArray, List.getElem?_cons_succ, List.getElem?_cons_zero]; rfl) (by kernel_rfl) (by kernel_rfl) (by kernel_rfl) (by exact fun _ _ _ h => h) (Or.inl ⟨by rfl, by intro w' hSw; (try dsimp only at hSw); first | (go_simp; done) | (go_simp; with_reducible rfl)⟩) hHeld ?_
          simp only [Act.put, List.setIfInBounds_toArray, List.set_cons_zero, List.set_cons_succ]
          refine wpAnyH_take (i := 23) (oi := _) (v := _) (by simp only [List.getElem?_toArray, List.getElem?_cons_succ, List.getElem?_cons_zero]; rfl) (by kernel_rfl) (by kernel_rfl) (by kernel_rfl) (by exact fun _ _ _ h => h) (Or.inl ⟨by rfl, by intro w' hSw; (try dsimp only at hSw); first | (go_simp; done) | (go_simp; with_reducible rfl)⟩) hHeld ?_
          simp only [Act.put, List.setIfInBounds_toArray, List.set_cons_zero, List.set_cons_succ]
          refine wpAnyH_ready (rs := [17]) (by kernel_rfl) (by simp) ?_
          refine AllReadyH.cons rfl (fun K hK => ?_) AllReadyH.nil
          go_simp
          go_wp2_with fail
          refine (HJ.out _).mono ?_
          rintro r y3 ⟨rfl, hy3⟩
          have BY3 : Hid (Below W.heap.size W y3) := by rw [hy3]; exact BY2.out
          refine hK.out _ _ (HSL.out _ (HBW.out.trans (BY3.out.mono HBW.out.size))) (fun hHeld => ?_)
          clear hK K hy3
          refine wpAnyH_take (i := 24) (oi := _) (v := _) (by simp only [List.getElem?_toArray, List.getElem?_cons_succ, List.getElem?_cons_zero]; rfl) (by kernel_rfl) (by kernel_rfl) (by kernel_rfl) (by exact fun _ _ _ h => h) (Or.inl ⟨by rfl, by intro w' hSw; (try dsimp only at hSw); first | (go_simp; done) | (go_simp; with_reducible rfl)⟩) hHeld ?_
          simp only [Act.put, List.setIfInBounds_toArray, List.set_cons_zero, List.set_cons_succ]
          refine wpAnyH_take (i := 25) (oi := _) (v := undef) (by simp only [List.getElem?_toArray, List.getElem?_cons_succ, List.getElem?_cons_zero]; rfl) (by kernel_rfl) (by kernel_rfl) (by kernel_rfl) (by exact fun _ _ _ h => h) (Or.inr ⟨by rfl, rfl⟩) hHeld ?_
          simp only [Act.put, List.setIfInBounds_toArray, List.set_cons_zero, List.set_cons_succ]
          refine wpAnyH_take (i := 26) (oi := _) (v := undef) (by simp only [List.getElem?_toArray, List.getElem?_cons_succ, List.getElem?_cons_zero]; rfl) (by kernel_rfl) (by kernel_rfl) (by kernel_rfl) (by exact fun _ _ _ h => h) (Or.inr ⟨by rfl, rfl⟩) hHeld ?_
          simp only [Act.put, List.setIfInBounds_toArray, List.set_cons_zero, List.set_cons_succ]
          refine wpAnyH_take (i := 27) (oi := _) (v := undef) (by simp only [List.getElem?_toArray, List.getElem?_cons_succ, List.getElem?_cons_zero]; rfl) (by kernel_rfl) (by kernel_rfl) (by kernel_rfl) (by exact fun _ _ _ h => h) (Or.inr ⟨by rfl, rfl⟩) hHeld ?_
          simp only [Act.put, List.setIfInBounds_toArray, List.set_cons_zero, List.set_cons_succ]
          refine wpAnyH_take (i := 28) (oi := _) (v := undef) (by simp only [List.getElem?_toArray, List.getElem?_cons_succ, List.getElem?_cons_zero]; rfl) (by kernel_rfl) (by kernel_rfl) (by kernel_rfl) (by exact fun _ _ _ h => h) (Or.inr ⟨by rfl, rfl⟩) hHeld ?_
          simp only [Act.put, List.setIfInBounds_toArray, List.set_cons_zero, List.set_cons_succ]
          refine wpAnyH_take (i := 29) (oi := _) (v := undef) (by simp only [List.getElem?_toArray, List.getElem?_cons_succ, List.getElem?_cons_zero]; rfl) (by kernel_rfl) (by kernel_rfl) (by kernel_rfl) (by exact fun _ _ _ h => h) (Or.inr ⟨by rfl, rfl⟩) hHeld ?_
          simp only [Act.put, List.setIfInBounds_toArray, List.set_cons_zero, List.set_cons_succ]
          refine wpAnyH_take (i := 30) (oi := _) (v := undef) (by simp only [List.getElem?_toArray, List.getElem?_cons_succ, List.getElem?_cons_zero]; rfl) (by kernel_rfl) (by kernel_rfl) (by kernel_rfl) (by exact fun _ _ _ h => h) (Or.inr ⟨by rfl, rfl⟩) hHeld ?_
          simp only [Act.put, List.setIfInBounds_toArray, List.set_cons_zero, List.set_cons_succ]
          refine wpAnyH_take (i := 31) (oi := _) (v := _) (by simp only [List.getElem?_toArray, List.getElem?_cons_succ, List.getElem?_cons_zero]; rfl) (by kernel_rfl) (by kernel_rfl) (by kernel_rfl) (by exact fun _ _ _ h => h) (Or.inl ⟨by rfl, by intro w' hSw; (try dsimp only at hSw); first | (go_simp; done) | (go_simp; with_reducible rfl)⟩) hHeld ?_
          simp only [Act.put, List.setIfInBounds_toArray, List.set_cons_zero, List.set_cons_succ]
          refine wpAnyH_take (i := 32) (oi := _) (v := _) (by simp only [List.getElem?_toArray, List.getElem?_cons_succ, List.getElem?_cons_zero]; rfl) (by kernel_rfl) (by kernel_rfl) (by kernel_rfl) (by exact fun _ _ _ h => h) (Or.inl ⟨by rfl, by intro w' hSw; (try dsimp only at hSw); first | (go_simp; done) | (go_simp; with_reducible rfl)⟩) hHeld ?_
          simp only [Act.put, List.setIfInBounds_toArray, List.set_cons_zero, List.set_cons_succ]
          refine wpAnyH_take (i := 33) (oi := _) (v := _) (by simp only [List.getElem?_toArray, List.getElem?_cons_succ, List.getElem?_cons_zero]; rfl) (by kernel_rfl) (by kernel_rfl) (by kernel_rfl) (by exact fun _ _ _ h => h) (Or.inl ⟨by rfl, by intro w' hSw; (try dsimp only at hSw); first | (go_simp; done) | (go_simp; with_reducible rfl)⟩) hHeld ?_
          simp only [Act.put, List.setIfInBounds_toArray, List.set_cons_zero, List.set_cons_succ]
          refine wpAnyH_done (by kernel_rfl) ?_ _
          clear hHeld
          go_wp2_with fail
          go_roundw
          case rel => exact ⟨k + 1, by omega, by omega, by go_num, RA.out.below BY3.out, RB.out.below BY3.out, HBW.out.trans (BY3.out.mono HBW.out.size)⟩
          case measure => simp [intOf]; omega)
      clear hK8
      refine wp_region_held_drew (S := fun W => W.cell? ⟨b0, off0 + k * 4, none⟩ = some (.int .i64 x.op) ∧ W.cell? ⟨b0, off0 + k * 4 + 1, none⟩ = some (.int .i64 x.d) ∧ W.cell? ⟨b0, off0 + k * 4 + 2, none⟩ = some (.int .i64 x.s) ∧ W.cell? ⟨b0, off0 + k * 4 + 3, none⟩ = some (.int .i64 x.imm)) (by kernel_rfl) (by exact ⟨e0, e1, e2, e3⟩) (fun hHeld => ?_)
      change wpAnyH _ _ _ _ _ 16 (Array.replicate 16 false) _ _
      obtain ⟨W0, hW0⟩ : ∃ W0, W0 = vk.drew := ⟨_, rfl⟩
      have BW0 : Hid (Below w1.heap.size w1 W0) := by rw [hW0]; exact HB.out.drew
      have RA0 : Hid (IRow W0 w1.heap.size (.slice av k ac) (fst L k)) := by rw [hW0]; exact HRA.out.below (Below.refl _ _).drew
      have RB0 : Hid (RRow W0 w1.heap.size (.slice bv k bc) (fst L k)) := by rw [hW0]; exact HRB.out.below (Below.refl _ _).drew
      rw [← hW0] at hHeld ⊢
      clear hW0 e0 e1 e2 e3 HRA HRB HB
      refine wpAnyH_take (i := 0) (oi := _) (v := _) (by simp only [List.getElem?_toArray, List.getElem?_cons_zero]; rfl) (by kernel_rfl) (by kernel_rfl) (by kernel_rfl) (by exact fun _ _ _ h => h) (Or.inl ⟨by rfl, by intro w' hSw; (try dsimp only at hSw); first | (go_simp; done) | (go_simp; with_reducible rfl)⟩) hHeld ?_
      simp only [Act.put, List.setIfInBounds_toArray, List.set_cons_zero, List.set_cons_succ]
      refine wpAnyH_take (i := 1) (oi := _) (v := _) (by simp only [List.getElem?_toArray, List.getElem?_cons_succ, List.getElem?_cons_zero]; rfl) (by kernel_rfl) (by kernel_rfl) (by kernel_rfl) (by exact fun _ _ _ h => h) (Or.inl ⟨by rfl, by intro w' hSw; (try dsimp only at hSw); first | (go_simp; done) | (go_simp; with_reducible rfl)⟩) hHeld ?_
      simp only [Act.put, List.setIfInBounds_toArray, List.set_cons_zero, List.set_cons_succ]
      refine wpAnyH_take (i := 2) (oi := _) (v := _) (by simp only [List.getElem?_toArray, List.getElem?_cons_succ, List.getElem?_cons_zero]; rfl) (by kernel_rfl) (by kernel_rfl) (by kernel_rfl) (by exact fun _ _ _ h => h) (Or.inl ⟨by rfl, by intro w' hSw; (try dsimp only at hSw); first | (go_simp; done) | (go_simp; with_reducible rfl)⟩) hHeld ?_
      simp only [Act.put, List.setIfInBounds_toArray, List.set_cons_zero, List.set_cons_succ]
      refine wpAnyH_take (i := 3) (oi := _) (v := _) (by simp only [List.getElem?_toArray, List.getElem?_cons_succ, List.getElem?_cons_zero]; rfl) (by kernel_rfl) (by kernel_rfl) (by kernel_rfl) (by exact fun _ _ _ h => h) (Or.inl ⟨by rfl, by intro w' hSw; (try dsimp only at hSw); first | (go_simp; done) | (go_simp; with_reducible rfl)⟩) hHeld ?_
      simp only [Act.put, List.setIfInBounds_toArray, List.set_cons_zero, List.set_cons_succ]
      refine wpAnyH_take (i := 4) (oi := _) (v := _) (by simp only [List.getElem?_toArray, List.getElem?_cons_succ, List.getElem?_cons_zero]; rfl) (by kernel_rfl) (by kernel_rfl) (by kernel_rfl) (by exact fun _ _ _ h => h) (Or.inl ⟨by rfl, by intro w' hSw; (try dsimp only at hSw); first | (go_simp; done) | (go_simp; with_reducible rfl)⟩) hHeld ?_
      simp only [Act.put, List.setIfInBounds_toArray, List.set_cons_zero, List.set_cons_succ]
      refine wpAnyH_take (i := 7) (oi := _) (v := _) (by simp only [List.getElem?_toArray, List.getElem?_cons_succ, List.getElem?_cons_zero]; rfl) (by kernel_rfl) (by kernel_rfl) (by kernel_rfl) (by exact fun _ _ _ h => h) (Or.inl ⟨by rfl, by intro w' hSw; (try dsimp only at hSw); first | (go_simp; done) | (go_simp; with_reducible rfl)⟩) hHeld ?_
      simp only [Act.put, List.setIfInBounds_toArray, List.set_cons_zero, List.set_cons_succ]
      refine wpAnyH_take (i := 8) (oi := _) (v := _) (by simp only [List.getElem?_toArray, List.getElem?_cons_succ, List.getElem?_cons_zero]; rfl) (by kernel_rfl) (by kernel_rfl) (by kernel_rfl) (by exact fun _ _ _ h => h) (Or.inl ⟨by rfl, by intro w' hSw; (try dsimp only at hSw); first | (go_simp; done) | (go_simp; with_reducible rfl)⟩) hHeld ?_
      simp only [Act.put, List.setIfInBounds_toArray, List.set_cons_zero, List.set_cons_succ]
      refine wpAnyH_take (i := 9) (oi := _) (v := _) (by simp only [List.getElem?_toArray, List.getElem?_cons_succ, List.getElem?_cons_zero]; rfl) (by kernel_rfl) (by kernel_rfl) (by kernel_rfl) (by exact fun _ _ _ h => h) (Or.inl ⟨by rfl, by intro w' hSw; (try dsimp only at hSw); first | (go_simp; done) | (go_simp; with_reducible rfl)⟩) hHeld ?_
      simp only [Act.put, List.setIfInBounds_toArray, List.set_cons_zero, List.set_cons_succ]
      refine wpAnyH_take (i := 10) (oi := _) (v := _) (by simp only [List.getElem?_toArray, List.getElem?_cons_succ, List.getElem?_cons_zero]; rfl) (by kernel_rfl) (by kernel_rfl) (by kernel_rfl) (by exact fun _ _ _ h => h) (Or.inl ⟨by rfl, by intro w' hSw; (try dsimp only at hSw); first | (go_simp; done) | (go_simp; with_reducible rfl)⟩) hHeld ?_
      simp only [Act.put, List.setIfInBounds_toArray, List.set_cons_zero, List.set_cons_succ]
      refine wpAnyH_take (i := 11) (oi := _) (v := _) (by simp only [List.getElem?_toArray, List.getElem?_cons_succ, List.getElem?_cons_zero]; rfl) (by kernel_rfl) (by kernel_rfl) (by kernel_rfl) (by exact fun _ _ _ h => h) (Or.inl ⟨by rfl, by intro w' hSw; (try dsimp only at hSw); first | (go_simp; done) | (go_simp; with_reducible rfl)⟩) hHeld ?_
      simp only [Act.put, List.setIfInBounds_toArray, List.set_cons_zero, List.set_cons_succ]
      refine wpAnyH_ready (rs := [5, 12]) (by kernel_rfl) (by simp) ?_
      refine (AllReadyH.cons (o := _) (by simp only [List.getElem?_toArray, List.getElem?_cons_succ, List.getElem?_cons_zero]; rfl) (fun K hK => ?_) (AllReadyH.cons (o := _) (by simp only [List.getElem?_toArray, List.getElem?_cons_succ, List.getElem?_cons_zero]; rfl) (fun K hK => ?_) AllReadyH.nil))
      · skip
        go_simp
        obtain ⟨W1, hW1⟩ : ∃ W1, W1 = W0.alloc (Obj.cells #[.int .i64 x.op, .int .i64 x.d, .int .i64 x.s, .int .i64 x.imm] 27) := ⟨_, rfl⟩
        have BW1 : Hid (Below w1.heap.size w1 W1) := by rw [hW1]; exact BW0.out.alloc BW0.out.size _
        have hLW1 : W1.heap[W0.heap.size]? = some (.cells #[.int .i64 x.op, .int .i64 x.d, .int .i64 x.s, .int .i64 x.imm] 27 (0, 0)) := by rw [hW1]; exact heap_alloc_new _ _
        have hbW1 : Below W0.heap.size W0 W1 := by rw [hW1]; exact (Below.refl _ _).alloc (Nat.le_refl _) _
        obtain ⟨lW1, hlW1⟩ : ∃ lW1, lW1 = W0.heap.size := ⟨_, rfl⟩
        rw [← hlW1] at hLW1
        have LW1 : Hid (W1.heap[lW1]? = some (.cells #[.int .i64 x.op, .int .i64 x.d, .int .i64 x.s, .int .i64 x.imm] 27 (0, 0))) := hLW1
        have RW10 : Hid (IRow W1 w1.heap.size (.slice av k ac) (fst L k)) := RA0.out.below hbW1
        have RW11 : Hid (RRow W1 w1.heap.size (.slice bv k bc) (fst L k)) := RB0.out.below hbW1
        have GW1 : Hid (W0.heap.size ≤ lW1) := Nat.le_of_eq hlW1.symm
        rw [← hW1, ← hlW1]
        refine hK.out _ _ (HSL.out _ BW1.out) (fun hHeld => ?_)
        clear hK K hW1 hLW1 hlW1 hbW1
        try simp only [Act.put, List.setIfInBounds_toArray, List.set_cons_zero, List.set_cons_succ]
        refine wpAnyH_ready (rs := [6, 12]) (by kernel_rfl) (by simp) ?_
        refine (AllReadyH.cons (o := _) (by simp only [List.getElem?_toArray, List.getElem?_cons_succ, List.getElem?_cons_zero]; rfl) (fun K hK => ?_) (AllReadyH.cons (o := _) (by simp only [List.getElem?_toArray, List.getElem?_cons_succ, List.getElem?_cons_zero]; rfl) (fun K hK => ?_) AllReadyH.nil))
        · skip
          obtain ⟨vW2, W2, hrW2, hwW2, hbW2, hnW2⟩ := app_lit RW10.out BW1.out.size (by rw [fst_length]; omega) x lW1 LW1.out
          rw [← HFS.out] at hwW2
          refine wpH_append (by rfl) rfl rfl rfl hrW2 ?_
          have BW2 : Hid (Below w1.heap.size w1 W2) := BW1.out.trans hbW2
          have QW2 : Hid (IRow W2 w1.heap.size vW2 (fst L (k + 1))) := hwW2
          have RW2 : Hid (RRow W2 w1.heap.size (.slice bv k bc) (fst L k)) := RW11.out.keep (fun g hg => hnW2 g (RW11.out.lt g hg) (rows_apart RW10.out RW11.out g hg))
          refine hK.out _ _ (HSL.out _ BW2.out) (fun hHeld => ?_)
          clear hK K hrW2 hwW2 hbW2 hnW2
          try simp only [Act.put, List.setIfInBounds_toArray, List.set_cons_zero, List.set_cons_succ]
          refine wpAnyH_ready (rs := [12]) (by kernel_rfl) (by simp) ?_
          refine (AllReadyH.cons (o := _) (by simp only [List.getElem?_toArray, List.getElem?_cons_succ, List.getElem?_cons_zero]; rfl) (fun K hK => ?_) AllReadyH.nil)
          · skip
            go_simp
            obtain ⟨W3, hW3⟩ : ∃ W3, W3 = W2.alloc (Obj.cells #[.int .i64 x.op, .int .i64 x.d, .int .i64 x.s, .int .i64 x.imm] 29) := ⟨_, rfl⟩
            have BW3 : Hid (Below w1.heap.size w1 W3) := by rw [hW3]; exact BW2.out.alloc BW2.out.size _
            have hLW3 : W3.heap[W2.heap.size]? = some (.cells #[.int .i64 x.op, .int .i64 x.d, .int .i64 x.s, .int .i64 x.imm] 29 (0, 0)) := by rw [hW3]; exact heap_alloc_new _ _
            have hbW3 : Below W2.heap.size W2 W3 := by rw [hW3]; exact (Below.refl _ _).alloc (Nat.le_refl _) _
            obtain ⟨lW3, hlW3⟩ : ∃ lW3, lW3 = W2.heap.size := ⟨_, rfl⟩
            rw [← hlW3] at hLW3
            have LW3 : Hid (W3.heap[lW3]? = some (.cells #[.int .i64 x.op, .int .i64 x.d, .int .i64 x.s, .int .i64 x.imm] 29 (0, 0))) := hLW3
            have RW30 : Hid (IRow W3 w1.heap.size vW2 (fst L (k + 1))) := QW2.out.below hbW3
            have RW31 : Hid (RRow W3 w1.heap.size (.slice bv k bc) (fst L k)) := RW2.out.below hbW3
            have GW3 : Hid (W2.heap.size ≤ lW3) := Nat.le_of_eq hlW3.symm
            rw [← hW3, ← hlW3]
            refine hK.out _ _ (HSL.out _ BW3.out) (fun hHeld => ?_)
            clear hK K hW3 hLW3 hlW3 hbW3
            try simp only [Act.put, List.setIfInBounds_toArray, List.set_cons_zero, List.set_cons_succ]
            refine wpAnyH_ready (rs := [13]) (by kernel_rfl) (by simp) ?_
            refine (AllReadyH.cons (o := _) (by simp only [List.getElem?_toArray, List.getElem?_cons_succ, List.getElem?_cons_zero]; rfl) (fun K hK => ?_) AllReadyH.nil)
            · skip
              obtain ⟨vW4, W4, hrW4, hwW4, hbW4, hnW4⟩ := rapp_lit RW31.out BW3.out.size (by rw [fst_length]; omega) x lW3 LW3.out
              rw [← HFS.out] at hwW4
              refine wpH_append (by rfl) rfl rfl rfl hrW4 ?_
              have BW4 : Hid (Below w1.heap.size w1 W4) := BW3.out.trans hbW4
              have QW4 : Hid (RRow W4 w1.heap.size vW4 (fst L (k + 1))) := hwW4
              have RW4 : Hid (IRow W4 w1.heap.size vW2 (fst L (k + 1))) := RW30.out.keep (fun g hg => hnW4 g (RW30.out.lt g hg) (fun e => rows_apart RW30.out RW31.out g e hg))
              refine hK.out _ _ (HSL.out _ BW4.out) (fun hHeld => ?_)
              clear hK K hrW4 hwW4 hbW4 hnW4
              try simp only [Act.put, List.setIfInBounds_toArray, List.set_cons_zero, List.set_cons_succ]
              refine wpAnyH_take (i := 14) (oi := _) (v := _) (by simp only [List.getElem?_toArray, List.getElem?_cons_succ, List.getElem?_cons_zero]; rfl) (by kernel_rfl) (by kernel_rfl) (by kernel_rfl) (by exact fun _ _ _ h => h) (Or.inl ⟨by rfl, by intro w' hSw; (try dsimp only at hSw); first | (go_simp; done) | (go_simp; with_reducible rfl)⟩) hHeld ?_
              simp only [Act.put, List.setIfInBounds_toArray, List.set_cons_zero, List.set_cons_succ]
              refine wpAnyH_take (i := 15) (oi := _) (v := _) (by simp only [List.getElem?_toArray, List.getElem?_cons_succ, List.getElem?_cons_zero]; rfl) (by kernel_rfl) (by kernel_rfl) (by kernel_rfl) (by exact fun _ _ _ h => h) (Or.inl ⟨by rfl, by intro w' hSw; (try dsimp only at hSw); first | (go_simp; done) | (go_simp; with_reducible rfl)⟩) hHeld ?_
              simp only [Act.put, List.setIfInBounds_toArray, List.set_cons_zero, List.set_cons_succ]
              refine wpAnyH_done (by kernel_rfl) ?_ _
              clear hHeld
              obtain ⟨an, ad, han⟩ := RW4.out.slice
              obtain ⟨bn, bd, hbn⟩ := QW4.out.slice
              rw [fst_length] at han hbn
              subst han
              subst hbn
              exact HNEXT _ _ _ _ _ RW4 QW4 BW4 _ _ _ _ _ _ _ _ _ _ _ _ _ _ _ _ _ _ _ _ _ _
        · skip
          go_simp
          obtain ⟨W5, hW5⟩ : ∃ W5, W5 = W1.alloc (Obj.cells #[.int .i64 x.op, .int .i64 x.d, .int .i64 x.s, .int .i64 x.imm] 29) := ⟨_, rfl⟩
          have BW5 : Hid (Below w1.heap.size w1 W5) := by rw [hW5]; exact BW1.out.alloc BW1.out.size _
          have hLW5 : W5.heap[W1.heap.size]? = some (.cells #[.int .i64 x.op, .int .i64 x.d, .int .i64 x.s, .int .i64 x.imm] 29 (0, 0)) := by rw [hW5]; exact heap_alloc_new _ _
          have hbW5 : Below W1.heap.size W1 W5 := by rw [hW5]; exact (Below.refl _ _).alloc (Nat.le_refl _) _
          obtain ⟨lW5, hlW5⟩ : ∃ lW5, lW5 = W1.heap.size := ⟨_, rfl⟩
          rw [← hlW5] at hLW5
          have LW5 : Hid (W5.heap[lW5]? = some (.cells #[.int .i64 x.op, .int .i64 x.d, .int .i64 x.s, .int .i64 x.imm] 29 (0, 0))) := hLW5
          have MW50 : Hid (W5.heap[lW1]? = some (.cells #[.int .i64 x.op, .int .i64 x.d, .int .i64 x.s, .int .i64 x.imm] 27 (0, 0))) := (hbW5.block _ (lt_of_heap LW1.out)).trans LW1.out
          have RW50 : Hid (IRow W5 w1.heap.size (.slice av k ac) (fst L k)) := RW10.out.below hbW5
          have RW51 : Hid (RRow W5 w1.heap.size (.slice bv k bc) (fst L k)) := RW11.out.below hbW5
          have GW5 : Hid (W1.heap.size ≤ lW5) := Nat.le_of_eq hlW5.symm
          rw [← hW5, ← hlW5]
          refine hK.out _ _ (HSL.out _ BW5.out) (fun hHeld => ?_)
          clear hK K hW5 hLW5 hlW5 hbW5
          try simp only [Act.put, List.setIfInBounds_toArray, List.set_cons_zero, List.set_cons_succ]
          refine wpAnyH_ready (rs := [6]) (by kernel_rfl) (by simp) ?_
          refine (AllReadyH.cons (o := _) (by simp only [List.getElem?_toArray, List.getElem?_cons_succ, List.getElem?_cons_zero]; rfl) (fun K hK => ?_) AllReadyH.nil)
          · skip
            obtain ⟨vW6, W6, hrW6, hwW6, hbW6, hnW6⟩ := app_lit RW50.out BW5.out.size (by rw [fst_length]; omega) x lW1 MW50.out
            rw [← HFS.out] at hwW6
            refine wpH_append (by rfl) rfl rfl rfl hrW6 ?_
            have BW6 : Hid (Below w1.heap.size w1 W6) := BW5.out.trans hbW6
            have QW6 : Hid (IRow W6 w1.heap.size vW6 (fst L (k + 1))) := hwW6
            have RW6 : Hid (RRow W6 w1.heap.size (.slice bv k bc) (fst L k)) := RW51.out.keep (fun g hg => hnW6 g (RW51.out.lt g hg) (rows_apart RW50.out RW51.out g hg))
            have MW6 : Hid (W6.heap[lW5]? = some (.cells #[.int .i64 x.op, .int .i64 x.d, .int .i64 x.s, .int .i64 x.imm] 29 (0, 0))) := (hnW6 _ (lt_of_heap LW5.out) (fun e => by obtain ⟨c, hc⟩ := RW50.out.block _ e; rw [LW5.out] at hc; injection hc with hc; injection hc with _ ht _; exact absurd ht (by decide))).trans LW5.out
            refine hK.out _ _ (HSL.out _ BW6.out) (fun hHeld => ?_)
            clear hK K hrW6 hwW6 hbW6 hnW6
            try simp only [Act.put, List.setIfInBounds_toArray, List.set_cons_zero, List.set_cons_succ]
            refine wpAnyH_ready (rs := [13]) (by kernel_rfl) (by simp) ?_
            refine (AllReadyH.cons (o := _) (by simp only [List.getElem?_toArray, List.getElem?_cons_succ, List.getElem?_cons_zero]; rfl) (fun K hK => ?_) AllReadyH.nil)
            · skip
              obtain ⟨vW7, W7, hrW7, hwW7, hbW7, hnW7⟩ := rapp_lit RW6.out BW6.out.size (by rw [fst_length]; omega) x lW5 MW6.out
              rw [← HFS.out] at hwW7
              refine wpH_append (by rfl) rfl rfl rfl hrW7 ?_
              have BW7 : Hid (Below w1.heap.size w1 W7) := BW6.out.trans hbW7
              have QW7 : Hid (RRow W7 w1.heap.size vW7 (fst L (k + 1))) := hwW7
              have RW7 : Hid (IRow W7 w1.heap.size vW6 (fst L (k + 1))) := QW6.out.keep (fun g hg => hnW7 g (QW6.out.lt g hg) (fun e => rows_apart QW6.out RW6.out g e hg))
              refine hK.out _ _ (HSL.out _ BW7.out) (fun hHeld => ?_)
              clear hK K hrW7 hwW7 hbW7 hnW7
              try simp only [Act.put, List.setIfInBounds_toArray, List.set_cons_zero, List.set_cons_succ]
              refine wpAnyH_take (i := 14) (oi := _) (v := _) (by simp only [List.getElem?_toArray, List.getElem?_cons_succ, List.getElem?_cons_zero]; rfl) (by kernel_rfl) (by kernel_rfl) (by kernel_rfl) (by exact fun _ _ _ h => h) (Or.inl ⟨by rfl, by intro w' hSw; (try dsimp only at hSw); first | (go_simp; done) | (go_simp; with_reducible rfl)⟩) hHeld ?_
              simp only [Act.put, List.setIfInBounds_toArray, List.set_cons_zero, List.set_cons_succ]
              refine wpAnyH_take (i := 15) (oi := _) (v := _) (by simp only [List.getElem?_toArray, List.getElem?_cons_succ, List.getElem?_cons_zero]; rfl) (by kernel_rfl) (by kernel_rfl) (by kernel_rfl) (by exact fun _ _ _ h => h) (Or.inl ⟨by rfl, by intro w' hSw; (try dsimp only at hSw); first | (go_simp; done) | (go_simp; with_reducible rfl)⟩) hHeld ?_
              simp only [Act.put, List.setIfInBounds_toArray, List.set_cons_zero, List.set_cons_succ]
              refine wpAnyH_done (by kernel_rfl) ?_ _
              clear hHeld
              obtain ⟨an, ad, han⟩ := RW7.out.slice
              obtain ⟨bn, bd, hbn⟩ := QW7.out.slice
              rw [fst_length] at han hbn
              subst han
              subst hbn
              exact HNEXT _ _ _ _ _ RW7 QW7 BW7 _ _ _ _ _ _ _ _ _ _ _ _ _ _ _ _ _ _ _ _ _ _
      · skip
        go_simp
        obtain ⟨W8, hW8⟩ : ∃ W8, W8 = W0.alloc (Obj.cells #[.int .i64 x.op, .int .i64 x.d, .int .i64 x.s, .int .i64 x.imm] 29) := ⟨_, rfl⟩
        have BW8 : Hid (Below w1.heap.size w1 W8) := by rw [hW8]; exact BW0.out.alloc BW0.out.size _
        have hLW8 : W8.heap[W0.heap.size]? = some (.cells #[.int .i64 x.op, .int .i64 x.d, .int .i64 x.s, .int .i64 x.imm] 29 (0, 0)) := by rw [hW8]; exact heap_alloc_new _ _
        have hbW8 : Below W0.heap.size W0 W8 := by rw [hW8]; exact (Below.refl _ _).alloc (Nat.le_refl _) _
        obtain ⟨lW8, hlW8⟩ : ∃ lW8, lW8 = W0.heap.size := ⟨_, rfl⟩
        rw [← hlW8] at hLW8
        have LW8 : Hid (W8.heap[lW8]? = some (.cells #[.int .i64 x.op, .int .i64 x.d, .int .i64 x.s, .int .i64 x.imm] 29 (0, 0))) := hLW8
        have RW80 : Hid (IRow W8 w1.heap.size (.slice av k ac) (fst L k)) := RA0.out.below hbW8
        have RW81 : Hid (RRow W8 w1.heap.size (.slice bv k bc) (fst L k)) := RB0.out.below hbW8
        have GW8 : Hid (W0.heap.size ≤ lW8) := Nat.le_of_eq hlW8.symm
        rw [← hW8, ← hlW8]
        refine hK.out _ _ (HSL.out _ BW8.out) (fun hHeld => ?_)
        clear hK K hW8 hLW8 hlW8 hbW8
        try simp only [Act.put, List.setIfInBounds_toArray, List.set_cons_zero, List.set_cons_succ]
        refine wpAnyH_ready (rs := [5]) (by kernel_rfl) (by simp) ?_
        refine (AllReadyH.cons (o := _) (by simp only [List.getElem?_toArray, List.getElem?_cons_succ, List.getElem?_cons_zero]; rfl) (fun K hK => ?_) AllReadyH.nil)
        · skip
          go_simp
          obtain ⟨W9, hW9⟩ : ∃ W9, W9 = W8.alloc (Obj.cells #[.int .i64 x.op, .int .i64 x.d, .int .i64 x.s, .int .i64 x.imm] 27) := ⟨_, rfl⟩
          have BW9 : Hid (Below w1.heap.size w1 W9) := by rw [hW9]; exact BW8.out.alloc BW8.out.size _
          have hLW9 : W9.heap[W8.heap.size]? = some (.cells #[.int .i64 x.op, .int .i64 x.d, .int .i64 x.s, .int .i64 x.imm] 27 (0, 0)) := by rw [hW9]; exact heap_alloc_new _ _
          have hbW9 : Below W8.heap.size W8 W9 := by rw [hW9]; exact (Below.refl _ _).alloc (Nat.le_refl _) _
          obtain ⟨lW9, hlW9⟩ : ∃ lW9, lW9 = W8.heap.size := ⟨_, rfl⟩
          rw [← hlW9] at hLW9
          have LW9 : Hid (W9.heap[lW9]? = some (.cells #[.int .i64 x.op, .int .i64 x.d, .int .i64 x.s, .int .i64 x.imm] 27 (0, 0))) := hLW9
          have MW91 : Hid (W9.heap[lW8]? = some (.cells #[.int .i64 x.op, .int .i64 x.d, .int .i64 x.s, .int .i64 x.imm] 29 (0, 0))) := (hbW9.block _ (lt_of_heap LW8.out)).trans LW8.out
          have RW90 : Hid (IRow W9 w1.heap.size (.slice av k ac) (fst L k)) := RW80.out.below hbW9
          have RW91 : Hid (RRow W9 w1.heap.size (.slice bv k bc) (fst L k)) := RW81.out.below hbW9
          have GW9 : Hid (W8.heap.size ≤ lW9) := Nat.le_of_eq hlW9.symm
          rw [← hW9, ← hlW9]
          refine hK.out _ _ (HSL.out _ BW9.out) (fun hHeld => ?_)
          clear hK K hW9 hLW9 hlW9 hbW9
          try simp only [Act.put, List.setIfInBounds_toArray, List.set_cons_zero, List.set_cons_succ]
          refine wpAnyH_ready (rs := [6]) (by kernel_rfl) (by simp) ?_
          refine (AllReadyH.cons (o := _) (by simp only [List.getElem?_toArray, List.getElem?_cons_succ, List.getElem?_cons_zero]; rfl) (fun K hK => ?_) AllReadyH.nil)
          · skip
            obtain ⟨vW10, W10, hrW10, hwW10, hbW10, hnW10⟩ := app_lit RW90.out BW9.out.size (by rw [fst_length]; omega) x lW9 LW9.out
            rw [← HFS.out] at hwW10
            refine wpH_append (by rfl) rfl rfl rfl hrW10 ?_
            have BW10 : Hid (Below w1.heap.size w1 W10) := BW9.out.trans hbW10
            have QW10 : Hid (IRow W10 w1.heap.size vW10 (fst L (k + 1))) := hwW10
            have RW10 : Hid (RRow W10 w1.heap.size (.slice bv k bc) (fst L k)) := RW91.out.keep (fun g hg => hnW10 g (RW91.out.lt g hg) (rows_apart RW90.out RW91.out g hg))
            have MW10 : Hid (W10.heap[lW8]? = some (.cells #[.int .i64 x.op, .int .i64 x.d, .int .i64 x.s, .int .i64 x.imm] 29 (0, 0))) := (hnW10 _ (lt_of_heap MW91.out) (fun e => by obtain ⟨c, hc⟩ := RW90.out.block _ e; rw [MW91.out] at hc; injection hc with hc; injection hc with _ ht _; exact absurd ht (by decide))).trans MW91.out
            refine hK.out _ _ (HSL.out _ BW10.out) (fun hHeld => ?_)
            clear hK K hrW10 hwW10 hbW10 hnW10
            try simp only [Act.put, List.setIfInBounds_toArray, List.set_cons_zero, List.set_cons_succ]
            refine wpAnyH_ready (rs := [13]) (by kernel_rfl) (by simp) ?_
            refine (AllReadyH.cons (o := _) (by simp only [List.getElem?_toArray, List.getElem?_cons_succ, List.getElem?_cons_zero]; rfl) (fun K hK => ?_) AllReadyH.nil)
            · skip
              obtain ⟨vW11, W11, hrW11, hwW11, hbW11, hnW11⟩ := rapp_lit RW10.out BW10.out.size (by rw [fst_length]; omega) x lW8 MW10.out
              rw [← HFS.out] at hwW11
              refine wpH_append (by rfl) rfl rfl rfl hrW11 ?_
              have BW11 : Hid (Below w1.heap.size w1 W11) := BW10.out.trans hbW11
              have QW11 : Hid (RRow W11 w1.heap.size vW11 (fst L (k + 1))) := hwW11
              have RW11 : Hid (IRow W11 w1.heap.size vW10 (fst L (k + 1))) := QW10.out.keep (fun g hg => hnW11 g (QW10.out.lt g hg) (fun e => rows_apart QW10.out RW10.out g e hg))
              refine hK.out _ _ (HSL.out _ BW11.out) (fun hHeld => ?_)
              clear hK K hrW11 hwW11 hbW11 hnW11
              try simp only [Act.put, List.setIfInBounds_toArray, List.set_cons_zero, List.set_cons_succ]
              refine wpAnyH_take (i := 14) (oi := _) (v := _) (by simp only [List.getElem?_toArray, List.getElem?_cons_succ, List.getElem?_cons_zero]; rfl) (by kernel_rfl) (by kernel_rfl) (by kernel_rfl) (by exact fun _ _ _ h => h) (Or.inl ⟨by rfl, by intro w' hSw; (try dsimp only at hSw); first | (go_simp; done) | (go_simp; with_reducible rfl)⟩) hHeld ?_
              simp only [Act.put, List.setIfInBounds_toArray, List.set_cons_zero, List.set_cons_succ]
              refine wpAnyH_take (i := 15) (oi := _) (v := _) (by simp only [List.getElem?_toArray, List.getElem?_cons_succ, List.getElem?_cons_zero]; rfl) (by kernel_rfl) (by kernel_rfl) (by kernel_rfl) (by exact fun _ _ _ h => h) (Or.inl ⟨by rfl, by intro w' hSw; (try dsimp only at hSw); first | (go_simp; done) | (go_simp; with_reducible rfl)⟩) hHeld ?_
              simp only [Act.put, List.setIfInBounds_toArray, List.set_cons_zero, List.set_cons_succ]
              refine wpAnyH_done (by kernel_rfl) ?_ _
              clear hHeld
              obtain ⟨an, ad, han⟩ := RW11.out.slice
              obtain ⟨bn, bd, hbn⟩ := QW11.out.slice
              rw [fst_length] at han hbn
              subst han
              subst hbn
              exact HNEXT _ _ _ _ _ RW11 QW11 BW11 _ _ _ _ _ _ _ _ _ _ _ _ _ _ _ _ _ _ _ _ _ _
    · have hx : decide ((k : Int) < (len0 : Int)) = false ∨ decide ((k : Int) < 140) = false := by
        rcases Nat.lt_or_ge k len0 with h1 | h1
        · right; rw [decide_eq_false_iff_not]; omega
        · left; rw [decide_eq_false_iff_not]; omega
      clear ‹∀ (a : Act) (w : World), Code.wp Tryd.prog _ _ a w → _›
      rcases hx with hx | hx
      all_goals go_wp2
      all_goals exact HREST _ _ _ _ _ _ _ _

end Go.Proofs.YtielliiadacbbaaDoor.Cd
