/-
  The document's Get of any bytes. Condition: they are at most 100000.
-/
import Derived.Test.YtielliiadacbbaaDoorCdRr
import Derived.Test.YtielliiadacbbaaDoorCdGetA
import Derived.Test.YtielliiadacbbaaDoorCdR
import Derived.Deep.RegionHeld3
import Derived.RegionTactic
import Derived.BigRegion
namespace Go.Proofs.YtielliiadacbbaaDoor.Cd
open Go.ChangeShapes Go.WideShapes Go.ChangeAt Go.RowKit Go.Proofs.Fa
open Go.Proofs.YtielliiadacbbaaDoor.Nv (lt_of_heap lt_of_cell cell_of_heap free_of_heap)
open Go.Proofs.YtielliiadacbbaaDoor.Le (putF numF OutS num_any4 string_some errV getF leVal refget_any)

set_option maxRecDepth 100000
set_option maxHeartbeats 1000000

/-- What the document's Get answers: the program, or nothing. -/
def GotR (w : World) (B : Nat) (v : Value) (s : ByteArray) : Prop := (getE s = 0 ∧ RRow w B v (progOf s (s.size / 8))) ∨ (getE s ≠ 0 ∧ v = .slice none 0 0)

theorem put4_other (w : World) (z g : Nat) (v0 v1 v2 v3 : Value) (h : g ≠ z) : (put4 w z v0 v1 v2 v3).heap[g]? = w.heap[g]? := by
  have e : ∀ (w : World) (i : Nat) (v : Value), (w.setCell ⟨z, i, none⟩ v).heap[g]? = w.heap[g]? := fun w i v => heap_setCell_other w ⟨z, i, none⟩ g v h
  unfold put4
  rw [e, e, e, e]
theorem rget_all (S : ByteArray) (hb : S.size ≤ 100000) (w : World) :
    Calls Tryd.prog 13 #[.string S] w fun r w' => ∃ v, r = .returned (.tuple #[v, .int .i64 (getE S)]) ∧ GotR w' w.heap.size v S ∧ Below w.heap.size w w' := by
  by_cases hm : S.size % 8 = 0
  case neg =>
    have HE : Hid (getE S = 4) := getE_form (fun h => hm h.1)
    have hm2 : ((S.size : Int) % 8 != 0) = true := by rw [bne_iff_ne]; omega
    go_enter Tryd.func13, Tryd.ntmps13
    go_wp2
    go_ret2
    exact ⟨_, by rw [HE.out]; rfl, .inr ⟨by rw [HE.out]; decide, rfl⟩, Below.refl _ _⟩
  obtain ⟨n, hn⟩ : ∃ n, S.size = 8 * n := ⟨S.size / 8, by omega⟩
  have HN : Hid (S.size = 8 * n ∧ S.size / 8 = n) := ⟨hn, by omega⟩
  have hn2 : n ≤ 12500 := by omega
  have hm2 : ((S.size : Int) % 8 != 0) = false := by rw [bne_eq_false_iff_eq]; omega
  have hq : (S.size : Int) / 8 = n := by omega
  clear hn hm hb
  go_enter Tryd.func13, Tryd.ntmps13
  go_wp2_with fail
  clear hm2
  go_loopw [4, 5, 6] (fun ov bv iv wr => ∃ (k : Nat) (b : Bool), k ≤ n ∧ iv = .int .i64 k ∧ bv = .bool b ∧ (b = true ↔ ∀ x ∈ progOf S k, RightP x) ∧ RRow wr w.heap.size ov (progOf S k) ∧ (∀ j, j < k → byteI S (8 * j + 3) = 0) ∧ Below w.heap.size w wr) (fun _ _ iv _ => n - (intOf iv).toNat)
  case atStart => exact ⟨0, true, Nat.zero_le _, rfl, rfl, ⟨(fun _ x (hx : x ∈ progOf S 0) => by cases hx), fun _ => rfl⟩, World.ownsRow_nil _ _ _ _, (fun j hj => by omega), Below.refl _ _⟩
  case round =>
    obtain ⟨k, b, hk, rfl, rfl, hbr, hrow, hzs, hbel⟩ := hrel
    have HBR : Hid (b = true ↔ ∀ x ∈ progOf S k, RightP x) := hbr
    have HROW : Hid (RRow wr w.heap.size u4 (progOf S k)) := hrow
    have HZ : Hid (∀ j, j < k → byteI S (8 * j + 3) = 0) := hzs
    have HB : Hid (Below w.heap.size w wr) := hbel
    clear hbr hrow hzs hbel
    obtain ⟨oa, oc, ho⟩ := HROW.out.slice
    rw [progOf_length] at ho
    subst ho
    by_cases hlt : k < n
    · have hk8 : 8 * k + 8 ≤ S.size := by have := HN.out.1; omega
      have hi3 : 8 * k + 3 < S.size := by omega
      by_cases h0 : byteI S (8 * k + 3) = 0
      · have hz1 : (((S[8 * k + 3]'hi3).toNat : Int) != 0) = false := by rw [← byteI_yes hi3, h0]; rfl
        have H0 : Hid (byteI S (8 * k + 3) = 0) := h0
        have HTS : Hid (progOf S (k + 1) = progOf S k ++ [insOf S k]) := progOf_succ S k
        obtain ⟨_, him⟩ := insOf_imm S k hk8
        have hho : 0 ≤ (insOf S k).op ∧ (insOf S k).op ≤ 255 := byteI_lt _ _
        have hhd : 0 ≤ (insOf S k).d ∧ (insOf S k).d ≤ 255 := byteI_lt _ _
        have hhs : 0 ≤ (insOf S k).s ∧ (insOf S k).s ≤ 255 := byteI_lt _ _
        have q0 : ∀ hi, (((S[8 * k]'hi).toNat : Nat) : Int) = (insOf S k).op := fun hi => (byteI_yes hi).symm
        have q1 : ∀ hi, (((S[8 * k + 1]'hi).toNat : Nat) : Int) = (insOf S k).d := fun hi => (byteI_yes hi).symm
        have q2 : ∀ hi, (((S[8 * k + 2]'hi).toNat : Nat) : Int) = (insOf S k).s := fun hi => (byteI_yes hi).symm
        obtain ⟨tl, htl⟩ : ∃ tl, S.extract (8 * k + 4) (8 * k + 8) = tl := ⟨_, rfl⟩
        have hgt : getF tl = (insOf S k).imm + 2147483648 := by rw [← htl]; show _ = getF _ - 2147483648 + 2147483648; omega
        have HG : Hid (∀ w, _) := fun w => refget_any tl w
        rw [hgt] at HG
        have hwi : IntKind.i64.wrap (insOf S k).imm = (insOf S k).imm := IntWalk.i64_in _ (by omega)
        have hwo : IntKind.i64.wrap (insOf S k).op = (insOf S k).op := IntWalk.i64_in _ (by omega)
        have hwd : IntKind.i64.wrap (insOf S k).d = (insOf S k).d := IntWalk.i64_in _ (by omega)
        have hws : IntKind.i64.wrap (insOf S k).s = (insOf S k).s := IntWalk.i64_in _ (by omega)
        have kw0 : IntKind.i64.wrap (8 * (k : Int)) = 8 * (k : Int) := IntWalk.i64_in _ (by omega)
        have kw1 : IntKind.i64.wrap (8 * (k : Int) + 1) = 8 * (k : Int) + 1 := IntWalk.i64_in _ (by omega)
        have kw2 : IntKind.i64.wrap (8 * (k : Int) + 2) = 8 * (k : Int) + 2 := IntWalk.i64_in _ (by omega)
        have kw4 : IntKind.i64.wrap (8 * (k : Int) + 4) = 8 * (k : Int) + 4 := IntWalk.i64_in _ (by omega)
        have kw8 : IntKind.i64.wrap (8 * (k : Int) + 8) = 8 * (k : Int) + 8 := IntWalk.i64_in _ (by omega)
        have kl0 : 0 ≤ 8 * (k : Int) ∧ 8 * (k : Int) < (S.size : Int) := by omega
        have kl1 : 0 ≤ 8 * (k : Int) + 1 ∧ 8 * (k : Int) + 1 < (S.size : Int) := by omega
        have kl2 : 0 ≤ 8 * (k : Int) + 2 ∧ 8 * (k : Int) + 2 < (S.size : Int) := by omega
        have kl4 : 0 ≤ 8 * (k : Int) + 4 ∧ 8 * (k : Int) + 4 ≤ 8 * (k : Int) + 8 := by omega
        have kl8 : 0 ≤ 8 * (k : Int) + 8 ∧ 8 * (k : Int) + 8 ≤ (S.size : Int) := by omega
        have kt0 : (8 * (k : Int)).toNat = 8 * k := by omega
        have kt1 : (8 * (k : Int) + 1).toNat = 8 * k + 1 := by omega
        have kt2 : (8 * (k : Int) + 2).toNat = 8 * k + 2 := by omega
        have kt4 : (8 * (k : Int) + 4).toNat = 8 * k + 4 := by omega
        have kt8 : (8 * (k : Int) + 8).toNat = 8 * k + 8 := by omega
        clear h0 hgt
        generalize insOf S k = x at *
        go_wp2_with fail
        have hK10 := ‹∀ (a : Act) (w : World), Code.wp Tryd.prog _ _ a w → _›
        have HNEXT := fun (p : Nat) (W : World) (HX : W.heap[p]? = some (.cells #[.int .i64 x.op, .int .i64 x.d, .int .i64 x.s, .int .i64 x.imm] 29 (0, 0))) (HBW : Below w.heap.size w W) (HRW : RRow W w.heap.size (.slice oa k oc) (progOf S k)) (x12 x13 x14 x15 x16 x19 x20 x21 x22 x23 x24 x25 x26 x27 x28 x29 x30 x31 x32 x33 x34 x35 x36 x37 x38 x39 x40 x41 x42 x43 x44 x45 x46 x47 x48 x49 x50 x51 x52 : Value) => hK10 ⟨#[.string S, undef, u2, u3, .slice oa k oc, .bool b, .int .i64 k, .pointer (some ⟨p, 0, none⟩), .string S, .int .i64 S.size, .int .i64 ((S.size : Int) % 8), .bool false, x12, x13, x14, x15, x16, u17, u18, x19, x20, x21, x22, x23, x24, x25, x26, x27, x28, x29, x30, x31, x32, x33, x34, x35, x36, x37, x38, x39, x40, x41, x42, x43, x44, x45, x46, x47, x48, x49, x50, x51, x52, u53, u54, u55, u56, u57, u58, u59, u60, u61, undef, undef, undef, undef, undef, undef], []⟩ W (by
          clear hK10 hz1 him hho hhd hhs q0 q1 q2 htl hwi hwo hwd hws kw0 kw1 kw2 kw4 kw8 kl0 kl1 kl2 kl4 kl8 kt0 kt1 kt2 kt4 kt8 hi3 hk8
          have HX1 : Hid (W.heap[p]? = some (.cells #[.int .i64 x.op, .int .i64 x.d, .int .i64 x.s, .int .i64 x.imm] 29 (0, 0))) := HX
          have HB1 : Hid (Below w.heap.size w W) := HBW
          have HR1 : Hid (RRow W w.heap.size (.slice oa k oc) (progOf S k)) := HRW
          clear HX HBW HRW HG
          have c0 := cell_of_heap HX1.out 0 _ rfl
          have c1 := cell_of_heap HX1.out 1 _ rfl
          have c2 := cell_of_heap HX1.out 2 _ rfl
          have c3 := cell_of_heap HX1.out 3 _ rfl
          cases b
          · obtain ⟨v5, w5, hrun, hr5, hb5, _⟩ := rapp_ins HR1.out HB1.out.size (by rw [progOf_length]; omega) x
            have HR5 : Hid (RRow w5 w.heap.size v5 (progOf S (k + 1))) := by show RRow _ _ _ _; rw [HTS.out]; exact hr5
            have HB5 : Hid (Below w.heap.size w w5) := HB1.out.trans hb5
            clear hr5 hb5 HR1 HX1 HB1
            go_wp2_with (at_builtin; refine wpList_append_run rfl _ _ _ rfl _ _ rfl rfl hrun ?_)
            go_roundw
            case rel =>
              refine ⟨k + 1, _, by omega, by go_num, rfl, ⟨(fun h => (Bool.false_ne_true h).elim), fun h => ?_⟩, HR5.out, (fun j hj => if e : j = k then by rw [e]; exact H0.out else HZ.out j (by omega)), HB5.out⟩
              exact HBR.out.2 (fun y hy => h y (by rw [HTS.out]; exact List.mem_append_left _ hy))
            case measure => simp [intOf]; omega
          · have HRI : Hid (∀ w, _) := fun w => refr_any x w
            go_wp2_with fail
            refine (HRI.out _).mono ?_
            rintro r w4 ⟨rfl, hb4⟩
            have HB4 : Hid (Below w.heap.size w w4) := HB1.out.trans (hb4.mono HB1.out.size)
            have HX4 : Hid (w4.heap[p]? = some (.cells #[.int .i64 x.op, .int .i64 x.d, .int .i64 x.s, .int .i64 x.imm] 29 (0, 0))) := (hb4.block _ (lt_of_heap HX1.out)).trans HX1.out
            have HR4 : Hid (RRow w4 w.heap.size (.slice oa k oc) (progOf S k)) := HR1.out.below hb4
            clear hb4 HB1 HX1 HR1 HRI c0 c1 c2 c3
            have c0 := cell_of_heap HX4.out 0 _ rfl
            have c1 := cell_of_heap HX4.out 1 _ rfl
            have c2 := cell_of_heap HX4.out 2 _ rfl
            have c3 := cell_of_heap HX4.out 3 _ rfl
            obtain ⟨v5, w5, hrun, hr5, hb5, _⟩ := rapp_ins HR4.out HB4.out.size (by rw [progOf_length]; omega) x
            have HR5 : Hid (RRow w5 w.heap.size v5 (progOf S (k + 1))) := by show RRow _ _ _ _; rw [HTS.out]; exact hr5
            have HB5 : Hid (Below w.heap.size w w5) := HB4.out.trans hb5
            have HNB : Hid (decide (RightP x) = true ↔ ∀ y ∈ progOf S (k + 1), RightP y) := by
              constructor
              · intro h y hy
                rw [HTS.out] at hy
                rcases List.mem_append.1 hy with hy | hy
                · exact HBR.out.1 (by first | rfl | trivial) y hy
                · rw [List.mem_singleton.1 hy]; exact of_decide_eq_true h
              · intro h
                exact decide_eq_true (h x (by rw [HTS.out]; exact List.mem_append_right _ (List.mem_singleton_self x)))
            clear hr5 hb5 HR4 HX4 HB4
            generalize decide (RightP x) = nb at *
            go_wp2_with (at_builtin; refine wpList_append_run rfl _ _ _ rfl _ _ rfl rfl hrun ?_)
            go_roundw
            case rel => exact ⟨k + 1, _, by omega, by go_num, rfl, HNB.out, HR5.out, (fun j hj => if e : j = k then by rw [e]; exact H0.out else HZ.out j (by omega)), HB5.out⟩
            case measure => simp [intOf]; omega)
        clear hK10
        refine wp_region_held_drew (S := fun _ => True) (by kernel_rfl) (by exact True.intro) (fun hHeld => ?_)
        change wpAnyH _ _ _ _ _ 30 (Array.replicate 30 false) _ _
        obtain ⟨W0, hW0⟩ : ∃ W0, W0 = wr.drew := ⟨_, rfl⟩
        have BW0 : Hid (Below w.heap.size w W0) := by rw [hW0]; exact HB.out.drew
        have RW0 : Hid (RRow W0 w.heap.size (.slice oa k oc) (progOf S k)) := by rw [hW0]; exact HROW.out.below (Below.refl _ _).drew
        rw [← hW0]
        clear hW0
        refine wpAnyH_take (i := 0) (oi := _) (v := _) (by simp only [List.getElem?_toArray, List.getElem?_cons_zero]; rfl) (by kernel_rfl) (by kernel_rfl) (by kernel_rfl) (by exact fun _ _ _ h => h) (Or.inl ⟨by rfl, by intro w' hSw; (try dsimp only at hSw); first | (go_simp; done) | (go_simp; with_reducible rfl)⟩) hHeld ?_
        simp only [Act.put, List.setIfInBounds_toArray, List.set_cons_zero, List.set_cons_succ]
        refine wpAnyH_take (i := 1) (oi := _) (v := _) (by simp only [List.getElem?_toArray, List.getElem?_cons_succ, List.getElem?_cons_zero]; rfl) (by kernel_rfl) (by kernel_rfl) (by kernel_rfl) (by exact fun _ _ _ h => h) (Or.inl ⟨by rfl, by intro w' hSw; (try dsimp only at hSw); first | (go_simp; done) | (go_simp; with_reducible rfl)⟩) hHeld ?_
        simp only [Act.put, List.setIfInBounds_toArray, List.set_cons_zero, List.set_cons_succ]
        refine wpAnyH_take (i := 2) (oi := _) (v := _) (by simp only [List.getElem?_toArray, List.getElem?_cons_succ, List.getElem?_cons_zero]; rfl) (by kernel_rfl) (by kernel_rfl) (by kernel_rfl) (by exact fun _ _ _ h => h) (Or.inl ⟨by rfl, by intro w' hSw; (try dsimp only at hSw); first | (go_simp; done) | (go_simp; with_reducible rfl)⟩) hHeld ?_
        simp only [Act.put, List.setIfInBounds_toArray, List.set_cons_zero, List.set_cons_succ]
        refine wpAnyH_take (i := 3) (oi := _) (v := _) (by simp only [List.getElem?_toArray, List.getElem?_cons_succ, List.getElem?_cons_zero]; rfl) (by kernel_rfl) (by kernel_rfl) (by kernel_rfl) (by exact fun _ _ _ h => h) (Or.inl ⟨by rfl, by intro w' hSw; (try dsimp only at hSw); first | (go_simp; done) | (go_simp; with_reducible rfl)⟩) hHeld ?_
        simp only [Act.put, List.setIfInBounds_toArray, List.set_cons_zero, List.set_cons_succ]
        refine wpAnyH_take (i := 4) (oi := _) (v := _) (by simp only [List.getElem?_toArray, List.getElem?_cons_succ, List.getElem?_cons_zero]; rfl) (by kernel_rfl) (by kernel_rfl) (by kernel_rfl) (by exact fun _ _ _ h => h) (Or.inl ⟨by rfl, by intro w' hSw; (try dsimp only at hSw); first | (go_simp; done) | (go_simp; with_reducible rfl)⟩) hHeld ?_
        simp only [Act.put, List.setIfInBounds_toArray, List.set_cons_zero, List.set_cons_succ]
        refine wpAnyH_take (i := 5) (oi := _) (v := _) (by simp only [List.getElem?_toArray, List.getElem?_cons_succ, List.getElem?_cons_zero]; rfl) (by kernel_rfl) (by kernel_rfl) (by kernel_rfl) (by exact fun _ _ _ h => h) (Or.inl ⟨by rfl, by intro w' hSw; (try dsimp only at hSw); first | (go_simp; done) | (go_simp; with_reducible rfl)⟩) hHeld ?_
        simp only [Act.put, List.setIfInBounds_toArray, List.set_cons_zero, List.set_cons_succ]
        refine wpAnyH_take (i := 6) (oi := _) (v := _) (by simp only [List.getElem?_toArray, List.getElem?_cons_succ, List.getElem?_cons_zero]; rfl) (by kernel_rfl) (by kernel_rfl) (by kernel_rfl) (by exact fun _ _ _ h => h) (Or.inl ⟨by rfl, by intro w' hSw; (try dsimp only at hSw); first | (go_simp; done) | (go_simp; with_reducible rfl)⟩) hHeld ?_
        simp only [Act.put, List.setIfInBounds_toArray, List.set_cons_zero, List.set_cons_succ]
        refine wpAnyH_take (i := 7) (oi := _) (v := _) (by simp only [List.getElem?_toArray, List.getElem?_cons_succ, List.getElem?_cons_zero]; rfl) (by kernel_rfl) (by kernel_rfl) (by kernel_rfl) (by exact fun _ _ _ h => h) (Or.inl ⟨by rfl, by intro w' hSw; (try dsimp only at hSw); first | (go_simp; done) | (go_simp; with_reducible rfl)⟩) hHeld ?_
        simp only [Act.put, List.setIfInBounds_toArray, List.set_cons_zero, List.set_cons_succ]
        refine wpAnyH_take (i := 8) (oi := _) (v := _) (by simp only [List.getElem?_toArray, List.getElem?_cons_succ, List.getElem?_cons_zero]; rfl) (by kernel_rfl) (by kernel_rfl) (by kernel_rfl) (by exact fun _ _ _ h => h) (Or.inl ⟨by rfl, by intro w' hSw; (try dsimp only at hSw); first | (go_simp; done) | (go_simp; with_reducible rfl)⟩) hHeld ?_
        simp only [Act.put, List.setIfInBounds_toArray, List.set_cons_zero, List.set_cons_succ]
        refine wpAnyH_take (i := 9) (oi := _) (v := _) (by simp only [List.getElem?_toArray, List.getElem?_cons_succ, List.getElem?_cons_zero]; rfl) (by kernel_rfl) (by kernel_rfl) (by kernel_rfl) (by exact fun _ _ _ h => h) (Or.inl ⟨by rfl, by intro w' hSw; (try dsimp only at hSw); first | (go_simp; done) | (go_simp; with_reducible rfl)⟩) hHeld ?_
        simp only [Act.put, List.setIfInBounds_toArray, List.set_cons_zero, List.set_cons_succ]
        refine wpAnyH_take (i := 10) (oi := _) (v := _) (by simp only [List.getElem?_toArray, List.getElem?_cons_succ, List.getElem?_cons_zero]; rfl) (by kernel_rfl) (by kernel_rfl) (by kernel_rfl) (by exact fun _ _ _ h => h) (Or.inl ⟨by rfl, by intro w' hSw; (try dsimp only at hSw); first | (go_simp; done) | (go_simp; with_reducible rfl)⟩) hHeld ?_
        simp only [Act.put, List.setIfInBounds_toArray, List.set_cons_zero, List.set_cons_succ]
        refine wpAnyH_take (i := 11) (oi := _) (v := _) (by simp only [List.getElem?_toArray, List.getElem?_cons_succ, List.getElem?_cons_zero]; rfl) (by kernel_rfl) (by kernel_rfl) (by kernel_rfl) (by exact fun _ _ _ h => h) (Or.inl ⟨by rfl, by intro w' hSw; (try dsimp only at hSw); first | (go_simp; done) | (go_simp; with_reducible rfl)⟩) hHeld ?_
        simp only [Act.put, List.setIfInBounds_toArray, List.set_cons_zero, List.set_cons_succ]
        refine wpAnyH_take (i := 12) (oi := _) (v := _) (by simp only [List.getElem?_toArray, List.getElem?_cons_succ, List.getElem?_cons_zero]; rfl) (by kernel_rfl) (by kernel_rfl) (by kernel_rfl) (by exact fun _ _ _ h => h) (Or.inl ⟨by rfl, by intro w' hSw; (try dsimp only at hSw); first | (go_simp; done) | (go_simp; with_reducible rfl)⟩) hHeld ?_
        simp only [Act.put, List.setIfInBounds_toArray, List.set_cons_zero, List.set_cons_succ]
        refine wpAnyH_take (i := 13) (oi := _) (v := _) (by simp only [List.getElem?_toArray, List.getElem?_cons_succ, List.getElem?_cons_zero]; rfl) (by kernel_rfl) (by kernel_rfl) (by kernel_rfl) (by exact fun _ _ _ h => h) (Or.inl ⟨by rfl, by intro w' hSw; (try dsimp only at hSw); first | (go_simp; done) | (go_simp; with_reducible rfl)⟩) hHeld ?_
        simp only [Act.put, List.setIfInBounds_toArray, List.set_cons_zero, List.set_cons_succ]
        refine wpAnyH_take (i := 14) (oi := _) (v := _) (by simp only [List.getElem?_toArray, List.getElem?_cons_succ, List.getElem?_cons_zero]; rfl) (by kernel_rfl) (by kernel_rfl) (by kernel_rfl) (by exact fun _ _ _ h => h) (Or.inl ⟨by rfl, by intro w' hSw; (try dsimp only at hSw); first | (go_simp; done) | (go_simp; with_reducible rfl)⟩) hHeld ?_
        simp only [Act.put, List.setIfInBounds_toArray, List.set_cons_zero, List.set_cons_succ]
        refine wpAnyH_take (i := 15) (oi := _) (v := _) (by simp only [List.getElem?_toArray, List.getElem?_cons_succ, List.getElem?_cons_zero]; rfl) (by kernel_rfl) (by kernel_rfl) (by kernel_rfl) (by exact fun _ _ _ h => h) (Or.inl ⟨by rfl, by intro w' hSw; (try dsimp only at hSw); first | (go_simp; done) | (go_simp; with_reducible rfl)⟩) hHeld ?_
        simp only [Act.put, List.setIfInBounds_toArray, List.set_cons_zero, List.set_cons_succ]
        refine wpAnyH_take (i := 16) (oi := _) (v := _) (by simp only [List.getElem?_toArray, List.getElem?_cons_succ, List.getElem?_cons_zero]; rfl) (by kernel_rfl) (by kernel_rfl) (by kernel_rfl) (by exact fun _ _ _ h => h) (Or.inl ⟨by rfl, by intro w' hSw; (try dsimp only at hSw); first | (go_simp; done) | (go_simp; with_reducible rfl)⟩) hHeld ?_
        simp only [Act.put, List.setIfInBounds_toArray, List.set_cons_zero, List.set_cons_succ]
        refine wpAnyH_take (i := 17) (oi := _) (v := _) (by simp only [List.getElem?_toArray, List.getElem?_cons_succ, List.getElem?_cons_zero]; rfl) (by kernel_rfl) (by kernel_rfl) (by kernel_rfl) (by exact fun _ _ _ h => h) (Or.inl ⟨by rfl, by intro w' hSw; (try dsimp only at hSw); first | (go_simp; done) | (go_simp; with_reducible rfl)⟩) hHeld ?_
        simp only [Act.put, List.setIfInBounds_toArray, List.set_cons_zero, List.set_cons_succ]
        refine wpAnyH_take (i := 18) (oi := _) (v := _) (by simp only [List.getElem?_toArray, List.getElem?_cons_succ, List.getElem?_cons_zero]; rfl) (by kernel_rfl) (by kernel_rfl) (by kernel_rfl) (by exact fun _ _ _ h => h) (Or.inl ⟨by rfl, by intro w' hSw; (try dsimp only at hSw); first | (go_simp; done) | (go_simp; with_reducible rfl)⟩) hHeld ?_
        simp only [Act.put, List.setIfInBounds_toArray, List.set_cons_zero, List.set_cons_succ]
        refine wpAnyH_take (i := 19) (oi := _) (v := _) (by simp only [List.getElem?_toArray, List.getElem?_cons_succ, List.getElem?_cons_zero]; rfl) (by kernel_rfl) (by kernel_rfl) (by kernel_rfl) (by exact fun _ _ _ h => h) (Or.inl ⟨by rfl, by intro w' hSw; (try dsimp only at hSw); first | (go_simp; done) | (go_simp; with_reducible rfl)⟩) hHeld ?_
        simp only [Act.put, List.setIfInBounds_toArray, List.set_cons_zero, List.set_cons_succ]
        refine wpAnyH_take (i := 20) (oi := _) (v := _) (by simp only [List.getElem?_toArray, List.getElem?_cons_succ, List.getElem?_cons_zero]; rfl) (by kernel_rfl) (by kernel_rfl) (by kernel_rfl) (by exact fun _ _ _ h => h) (Or.inl ⟨by rfl, by intro w' hSw; (try dsimp only at hSw); first | (go_simp; done) | (go_simp; with_reducible rfl)⟩) hHeld ?_
        simp only [Act.put, List.setIfInBounds_toArray, List.set_cons_zero, List.set_cons_succ]
        refine wpAnyH_take (i := 21) (oi := _) (v := _) (by simp only [List.getElem?_toArray, List.getElem?_cons_succ, List.getElem?_cons_zero]; rfl) (by kernel_rfl) (by kernel_rfl) (by kernel_rfl) (by exact fun _ _ _ h => h) (Or.inl ⟨by rfl, by intro w' hSw; (try dsimp only at hSw); first | (go_simp; done) | (go_simp; with_reducible rfl)⟩) hHeld ?_
        simp only [Act.put, List.setIfInBounds_toArray, List.set_cons_zero, List.set_cons_succ]
        refine wpAnyH_take (i := 22) (oi := _) (v := _) (by simp only [List.getElem?_toArray, List.getElem?_cons_succ, List.getElem?_cons_zero]; rfl) (by kernel_rfl) (by kernel_rfl) (by kernel_rfl) (by exact fun _ _ _ h => h) (Or.inl ⟨by rfl, by intro w' hSw; (try dsimp only at hSw); first | (go_simp; done) | (go_simp; with_reducible rfl)⟩) hHeld ?_
        simp only [Act.put, List.setIfInBounds_toArray, List.set_cons_zero, List.set_cons_succ]
        refine wpAnyH_take (i := 23) (oi := _) (v := _) (by simp only [List.getElem?_toArray, List.getElem?_cons_succ, List.getElem?_cons_zero]; rfl) (by kernel_rfl) (by kernel_rfl) (by kernel_rfl) (by exact fun _ _ _ h => h) (Or.inl ⟨by rfl, by intro w' hSw; (try dsimp only at hSw); first | (go_simp; done) | (go_simp; with_reducible rfl)⟩) hHeld ?_
        simp only [Act.put, List.setIfInBounds_toArray, List.set_cons_zero, List.set_cons_succ]
        refine wpAnyH_take (i := 24) (oi := _) (v := _) (by simp only [List.getElem?_toArray, List.getElem?_cons_succ, List.getElem?_cons_zero]; rfl) (by kernel_rfl) (by kernel_rfl) (by kernel_rfl) (by exact fun _ _ _ h => h) (Or.inl ⟨by rfl, by intro w' hSw; (try dsimp only at hSw); first | (go_simp; done) | (go_simp; with_reducible rfl)⟩) hHeld ?_
        simp only [Act.put, List.setIfInBounds_toArray, List.set_cons_zero, List.set_cons_succ]
        refine wpAnyH_ready (rs := [25, 28]) (by kernel_rfl) (by simp) ?_
        refine (AllReadyH.cons (o := _) (by simp only [List.getElem?_toArray, List.getElem?_cons_succ, List.getElem?_cons_zero]; rfl) (fun K hK => ?_) (AllReadyH.cons (o := _) (by simp only [List.getElem?_toArray, List.getElem?_cons_succ, List.getElem?_cons_zero]; rfl) (fun K hK => ?_) AllReadyH.nil))
        · skip
          go_simp
          go_wp2_with fail
          refine (HG.out _).mono ?_
          rintro r W1 ⟨rfl, hW1⟩
          have BW1 : Hid (Below w.heap.size w W1) := by rw [hW1]; exact BW0.out
          have RW1 : Hid (RRow W1 w.heap.size (.slice oa k oc) (progOf S k)) := by rw [hW1]; exact RW0.out
          refine hK.out _ _ True.intro (fun hHeld => ?_)
          clear hK K hW1
          try simp only [Act.put, List.setIfInBounds_toArray, List.set_cons_zero, List.set_cons_succ]
          refine wpAnyH_take (i := 26) (oi := _) (v := _) (by simp only [List.getElem?_toArray, List.getElem?_cons_succ, List.getElem?_cons_zero]; rfl) (by kernel_rfl) (by kernel_rfl) (by kernel_rfl) (by exact fun _ _ _ h => h) (Or.inl ⟨by rfl, by intro w' hSw; (try dsimp only at hSw); first | (go_simp; done) | (go_simp; with_reducible rfl)⟩) hHeld ?_
          simp only [Act.put, List.setIfInBounds_toArray, List.set_cons_zero, List.set_cons_succ]
          refine wpAnyH_take (i := 27) (oi := _) (v := _) (by simp only [List.getElem?_toArray, List.getElem?_cons_succ, List.getElem?_cons_zero]; rfl) (by kernel_rfl) (by kernel_rfl) (by kernel_rfl) (by exact fun _ _ _ h => h) (Or.inl ⟨by rfl, by intro w' hSw; (try dsimp only at hSw); first | (go_simp; done) | (go_simp; with_reducible rfl)⟩) hHeld ?_
          simp only [Act.put, List.setIfInBounds_toArray, List.set_cons_zero, List.set_cons_succ]
          refine wpAnyH_ready (rs := [28]) (by kernel_rfl) (by simp) ?_
          refine (AllReadyH.cons (o := _) (by simp only [List.getElem?_toArray, List.getElem?_cons_succ, List.getElem?_cons_zero]; rfl) (fun K hK => ?_) AllReadyH.nil)
          · skip
            go_simp
            obtain ⟨W2, hW2⟩ : ∃ W2, W2 = W1.alloc (Obj.cells #[.int .i64 0, .int .i64 0, .int .i64 0, .int .i64 0] 29) := ⟨_, rfl⟩
            have BW2 : Hid (Below w.heap.size w W2) := by rw [hW2]; exact BW1.out.alloc BW1.out.size _
            have hLW2 : W2.heap[W1.heap.size]? = some (.cells #[.int .i64 0, .int .i64 0, .int .i64 0, .int .i64 0] 29 (0, 0)) := by rw [hW2]; exact heap_alloc_new _ _
            have RW2 : Hid (RRow W2 w.heap.size (.slice oa k oc) (progOf S k)) := by rw [hW2]; exact RW1.out.below ((Below.refl _ _).alloc (Nat.le_refl _) _)
            obtain ⟨lW2, hlW2⟩ : ∃ lW2, lW2 = W1.heap.size := ⟨_, rfl⟩
            rw [← hlW2] at hLW2
            have Q : Hid (∀ g, (Value.slice oa k oc).ownBlock = some g → g ≠ lW2) := fun g hg e => by have := RW1.out.lt g hg; omega
            have PW2 : Hid (W2.heap[lW2]? = some (.cells #[.int .i64 0, .int .i64 0, .int .i64 0, .int .i64 0] 29 (0, 0)) ∧ w.heap.size ≤ lW2) := ⟨hLW2, by rw [hlW2]; exact BW1.out.size⟩
            rw [← hW2, ← hlW2]
            refine hK.out _ _ True.intro (fun hHeld => ?_)
            clear hK K hW2 hLW2 hlW2
            try simp only [Act.put, List.setIfInBounds_toArray, List.set_cons_zero, List.set_cons_succ]
            refine wpAnyH_ready (rs := [29]) (by kernel_rfl) (by simp) ?_
            refine (AllReadyH.cons (o := _) (by simp only [List.getElem?_toArray, List.getElem?_cons_succ, List.getElem?_cons_zero]; rfl) (fun K hK => ?_) AllReadyH.nil)
            have y0 := cell_of_heap PW2.out.1 0 _ rfl
            have y1 := cell_of_heap PW2.out.1 1 _ rfl
            have y2 := cell_of_heap PW2.out.1 2 _ rfl
            have y3 := cell_of_heap PW2.out.1 3 _ rfl
            have f0 := free_of_heap PW2.out.1 0
            have f1 := free_of_heap PW2.out.1 1
            have f2 := free_of_heap PW2.out.1 2
            have f3 := free_of_heap PW2.out.1 3
            go_simp
            refine hK.out _ _ True.intro (fun hHeld => ?_)
            clear hK K y0 y1 y2 y3 f0 f1 f2 f3
            try simp only [Act.put, List.setIfInBounds_toArray, List.set_cons_zero, List.set_cons_succ]
            refine wpAnyH_done (by kernel_rfl) ?_ _
            clear hHeld
            exact HNEXT lW2 _ (put4_heap PW2.out.1 _ _ _ _) (put4_below BW2.out lW2 PW2.out.2 _ _ _ _) (RW2.out.keep (fun g hg => put4_other W2 lW2 g _ _ _ _ (Q.out g hg))) _ _ _ _ _ _ _ _ _ _ _ _ _ _ _ _ _ _ _ _ _ _ _ _ _ _ _ _ _ _ _ _ _ _ _ _ _ _ _
        · skip
          go_simp
          obtain ⟨W3, hW3⟩ : ∃ W3, W3 = W0.alloc (Obj.cells #[.int .i64 0, .int .i64 0, .int .i64 0, .int .i64 0] 29) := ⟨_, rfl⟩
          have BW3 : Hid (Below w.heap.size w W3) := by rw [hW3]; exact BW0.out.alloc BW0.out.size _
          have hLW3 : W3.heap[W0.heap.size]? = some (.cells #[.int .i64 0, .int .i64 0, .int .i64 0, .int .i64 0] 29 (0, 0)) := by rw [hW3]; exact heap_alloc_new _ _
          have RW3 : Hid (RRow W3 w.heap.size (.slice oa k oc) (progOf S k)) := by rw [hW3]; exact RW0.out.below ((Below.refl _ _).alloc (Nat.le_refl _) _)
          obtain ⟨lW3, hlW3⟩ : ∃ lW3, lW3 = W0.heap.size := ⟨_, rfl⟩
          rw [← hlW3] at hLW3
          have Q : Hid (∀ g, (Value.slice oa k oc).ownBlock = some g → g ≠ lW3) := fun g hg e => by have := RW0.out.lt g hg; omega
          have PW3 : Hid (W3.heap[lW3]? = some (.cells #[.int .i64 0, .int .i64 0, .int .i64 0, .int .i64 0] 29 (0, 0)) ∧ w.heap.size ≤ lW3) := ⟨hLW3, by rw [hlW3]; exact BW0.out.size⟩
          rw [← hW3, ← hlW3]
          refine hK.out _ _ True.intro (fun hHeld => ?_)
          clear hK K hW3 hLW3 hlW3
          try simp only [Act.put, List.setIfInBounds_toArray, List.set_cons_zero, List.set_cons_succ]
          refine wpAnyH_ready (rs := [25]) (by kernel_rfl) (by simp) ?_
          refine (AllReadyH.cons (o := _) (by simp only [List.getElem?_toArray, List.getElem?_cons_succ, List.getElem?_cons_zero]; rfl) (fun K hK => ?_) AllReadyH.nil)
          · skip
            go_simp
            go_wp2_with fail
            refine (HG.out _).mono ?_
            rintro r W4 ⟨rfl, hW4⟩
            have BW4 : Hid (Below w.heap.size w W4) := by rw [hW4]; exact BW3.out
            have RW4 : Hid (RRow W4 w.heap.size (.slice oa k oc) (progOf S k)) := by rw [hW4]; exact RW3.out
            have PW4 : Hid (W4.heap[lW3]? = some (.cells #[.int .i64 0, .int .i64 0, .int .i64 0, .int .i64 0] 29 (0, 0)) ∧ w.heap.size ≤ lW3) := by rw [hW4]; exact PW3.out
            refine hK.out _ _ True.intro (fun hHeld => ?_)
            clear hK K hW4
            try simp only [Act.put, List.setIfInBounds_toArray, List.set_cons_zero, List.set_cons_succ]
            refine wpAnyH_take (i := 26) (oi := _) (v := _) (by simp only [List.getElem?_toArray, List.getElem?_cons_succ, List.getElem?_cons_zero]; rfl) (by kernel_rfl) (by kernel_rfl) (by kernel_rfl) (by exact fun _ _ _ h => h) (Or.inl ⟨by rfl, by intro w' hSw; (try dsimp only at hSw); first | (go_simp; done) | (go_simp; with_reducible rfl)⟩) hHeld ?_
            simp only [Act.put, List.setIfInBounds_toArray, List.set_cons_zero, List.set_cons_succ]
            refine wpAnyH_take (i := 27) (oi := _) (v := _) (by simp only [List.getElem?_toArray, List.getElem?_cons_succ, List.getElem?_cons_zero]; rfl) (by kernel_rfl) (by kernel_rfl) (by kernel_rfl) (by exact fun _ _ _ h => h) (Or.inl ⟨by rfl, by intro w' hSw; (try dsimp only at hSw); first | (go_simp; done) | (go_simp; with_reducible rfl)⟩) hHeld ?_
            simp only [Act.put, List.setIfInBounds_toArray, List.set_cons_zero, List.set_cons_succ]
            refine wpAnyH_ready (rs := [29]) (by kernel_rfl) (by simp) ?_
            refine (AllReadyH.cons (o := _) (by simp only [List.getElem?_toArray, List.getElem?_cons_succ, List.getElem?_cons_zero]; rfl) (fun K hK => ?_) AllReadyH.nil)
            have y0 := cell_of_heap PW4.out.1 0 _ rfl
            have y1 := cell_of_heap PW4.out.1 1 _ rfl
            have y2 := cell_of_heap PW4.out.1 2 _ rfl
            have y3 := cell_of_heap PW4.out.1 3 _ rfl
            have f0 := free_of_heap PW4.out.1 0
            have f1 := free_of_heap PW4.out.1 1
            have f2 := free_of_heap PW4.out.1 2
            have f3 := free_of_heap PW4.out.1 3
            go_simp
            refine hK.out _ _ True.intro (fun hHeld => ?_)
            clear hK K y0 y1 y2 y3 f0 f1 f2 f3
            try simp only [Act.put, List.setIfInBounds_toArray, List.set_cons_zero, List.set_cons_succ]
            refine wpAnyH_done (by kernel_rfl) ?_ _
            clear hHeld
            exact HNEXT lW3 _ (put4_heap PW4.out.1 _ _ _ _) (put4_below BW4.out lW3 PW4.out.2 _ _ _ _) (RW4.out.keep (fun g hg => put4_other W4 lW3 g _ _ _ _ (Q.out g hg))) _ _ _ _ _ _ _ _ _ _ _ _ _ _ _ _ _ _ _ _ _ _ _ _ _ _ _ _ _ _ _ _ _ _ _ _ _ _ _
      · have hz1 : (((S[8 * k + 3]'hi3).toNat : Int) != 0) = true := by rw [← byteI_yes hi3]; exact bne_iff_ne.2 h0
        have HE : Hid (getE S = 4) := getE_form (fun h => h0 (h.2 k hi3))
        clear h0
        go_wp2_with fail
        go_ret2
        exact ⟨_, by rw [HE.out]; rfl, .inr ⟨by rw [HE.out]; decide, rfl⟩, HB.out⟩
    · have hkn : k = n := by omega
      have HF : Hid (FormP S) := ⟨by have := HN.out.1; omega, fun j hj => HZ.out j (by have := HN.out.1; omega)⟩
      have HP : Hid (progOf S (S.size / 8) = progOf S k) := by show _ = _; rw [HN.out.2, hkn]
      by_cases hl : 128 < n
      · have HE : Hid (getE S = 10) := getE_long HF.out (by have := HN.out.1; omega)
        clear hkn
        go_wp2_with fail
        go_ret2
        exact ⟨_, by rw [HE.out]; rfl, .inr ⟨by rw [HE.out]; decide, rfl⟩, HB.out⟩
      · have hl8 : S.size ≤ 1024 := by have := HN.out.1; omega
        cases b
        · have HE : Hid (getE S = 11) := by
            have hno : ¬ ∀ x ∈ progOf S (S.size / 8), RightP x := fun h => Bool.false_ne_true (HBR.out.2 (by rw [← HP.out]; exact h))
            show getE S = 11
            unfold getE
            rw [if_pos HF.out, if_neg (by omega), if_neg hno]
          clear hkn hl8
          go_wp2_with fail
          go_ret2
          exact ⟨_, by rw [HE.out]; rfl, .inr ⟨by rw [HE.out]; decide, rfl⟩, HB.out⟩
        · have HE : Hid (getE S = 0) := getE_yes HF.out hl8 (by rw [HP.out]; exact HBR.out.1 rfl)
          clear hkn hl8
          go_wp2_with fail
          go_ret2
          exact ⟨_, by rw [HE.out]; rfl, .inl ⟨HE.out, by rw [HP.out]; exact HROW.out⟩, HB.out⟩

end Go.Proofs.YtielliiadacbbaaDoor.Cd
