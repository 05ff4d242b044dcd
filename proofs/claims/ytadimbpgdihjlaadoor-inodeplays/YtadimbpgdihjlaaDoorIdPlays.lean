/-
  InodePlays: the walk. Condition: errors.errorType holds its handle.
-/
import Derived.Test.YtadimbpgdihjlaaDoorIdPl0
namespace Go.Proofs.YtadimbpgdihjlaaDoor.Id
open Go.ChangeShapes Go.WideShapes Go.ChangeAt Go.RowKit Go.Proofs.Fa
open Go.Proofs.YtadimbpgdihjlaaDoor.As (ErrT)

set_option maxRecDepth 100000
set_option maxHeartbeats 6000000

theorem inodePlays_walk (sa : Option Addr) (len cap : Nat) (L : Nat → IdA.Act3) (w : World) (_ : len ≤ maxLen) (hI : IdA.ItemsAt w sa len L) (hE : ErrT w) :
    Calls Tryd.prog 3 #[.slice sa len cap] w fun r w' => r = .returned (.bool true) ∧ Below w.heap.size w w' := by
  have HE : Hid (ErrT w) := hE
  have HI : Hid (IdA.ItemsAt w sa len L) := hI
  clear hE hI
  go_enter Tryd.func3, Tryd.ntmps3
  go_wp2_with fail
  refine (speaks_any _).mono ?_
  rintro r w1 ⟨rfl, hb1⟩
  have hw1 := hb1.size
  obtain ⟨w2, hw2⟩ : ∃ w2, w2 = (w1.alloc (Obj.cells #[.int .i64 0, .slice none 0 0] 26)).alloc (Obj.cells #[.int .i64 0, .slice none 0 0] 29) := ⟨_, rfl⟩
  have HP2 : Hid (PI w w2 w1.heap.size (w1.heap.size + 1) 0 (.slice none 0 0) (.slice none 0 0) []) := by
    rw [hw2]
    refine ⟨(Below.heap_alloc _ _ _ (by simp)).trans (heap_alloc_new w1 _), ?_, World.ownsRow_nil _ _ _ _, World.ownsRow_nil _ _ _ _, (hb1.alloc hb1.size _).alloc (by simp; omega) _, hw1, by omega, by omega, fun i h => (by cases h), fun i h => (by cases h)⟩
    have := heap_alloc_new (w1.alloc (Obj.cells #[.int .i64 0, .slice none 0 0] 26)) (Obj.cells #[.int .i64 0, .slice none 0 0] 29)
    rw [World.size_alloc] at this
    exact this
  obtain ⟨ab, hab⟩ : ∃ k, k = w1.heap.size := ⟨_, rfl⟩
  obtain ⟨bb, hbb⟩ : ∃ k, k = w1.heap.size + 1 := ⟨_, rfl⟩
  rw [← hbb, ← hab] at HP2
  clear hb1 hw1
  go_wp2_with fail
  rw [← hw2]
  rw [← hbb, ← hab]
  clear hw2 hab hbb
  go_loopw [5] (fun i wr => ∃ (k : Nat) (ver : Int) (aa ba : Option Addr) (ac bc : Nat) (l : List Ext), k ≤ len ∧ k ≤ 60 ∧ i = .int .i64 k ∧ 0 ≤ ver ∧ ver ≤ k ∧ l.length ≤ 36 ∧ OkL l ∧ Apart l ∧ PI w wr ab bb ver (.slice aa l.length ac) (.slice ba l.length bc) l) (fun i _ => 60 - (intOf i).toNat)
  case atStart => exact ⟨0, 0, none, none, 0, 0, [], Nat.zero_le _, Nat.zero_le _, rfl, Int.le_refl _, Int.le_refl _, by decide, OkL.nil, True.intro, HP2.out⟩
  case round =>
    clear HP2
    obtain ⟨k, ver, aa, ba, ac, bc, l, hk, hk60, rfl, hv0, hvk, hn36, hOk, hAp, hP⟩ := hrel
    obtain ⟨wo, rfl⟩ : ∃ x, x = wr := ⟨wr, rfl⟩
    have HP : Hid (PI w wo ab bb ver (.slice aa l.length ac) (.slice ba l.length bc) l) := hP
    have HOK : Hid (OkL l) := hOk
    have HAP : Hid (Apart l) := hAp
    clear hP hOk hAp
    by_cases hlt : k < len
    · by_cases h60 : k < 60
      · obtain ⟨hc, hwf⟩ := HI.out.below HP.out.below (Nat.le_refl _)
        obtain ⟨ib, off, rfl, hib, hcell⟩ := hc.resolve_left (by omega)
        obtain ⟨i0, i1, i2⟩ := hcell k hlt
        obtain ⟨wf0, wf1, wf2⟩ := hwf k hlt
        clear hc hcell hwf
        generalize L k = it at *
        obtain ⟨what, xa, xb⟩ := it
        dsimp only at i0 i1 i2 wf0 wf1 wf2
        simp only [Lit.wf, IntKind.min, IntKind.max, IntKind.signed, IntKind.bits, Bool.and_eq_true, decide_eq_true_eq, if_true] at wf0 wf1 wf2
        have hlt' : (k : Int) < (len : Int) := by omega
        have h60' : (k : Int) < 60 := by omega
        obtain ⟨x0, x1, x2, x3⟩ := agg2 HP.out.a
        obtain ⟨n, hln⟩ : ∃ n, l.length = n := ⟨_, rfl⟩
        rw [hln] at hn36 x1 HP
        have hrem := Le.tmod_fix what 4 (by decide) (by decide)
        obtain ⟨m, hm⟩ : ∃ m, what % 4 = m := ⟨_, rfl⟩
        have hmb : 0 ≤ m ∧ m < 4 := by omega
        rw [hm] at hrem
        have xa1 : ∀ o, (wo.alloc o).cell? ⟨ab, 1, none⟩ = some (.slice aa n ac) := fun o => (World.cell?_of_block (Below.heap_alloc _ _ _ (lt_of_heap HP.out.a))).trans x1
        have xa2 : ∀ o o', ((wo.alloc o).alloc o').cell? ⟨ab, 1, none⟩ = some (.slice aa n ac) := fun o o' => (World.cell?_of_block (Below.heap_alloc _ _ _ (by have := lt_of_heap HP.out.a; simp; omega))).trans (xa1 o)
        have hab : ab < wo.heap.size ∧ bb < wo.heap.size := ⟨lt_of_heap HP.out.a, lt_of_heap HP.out.b⟩
        have HVL : Hid ((∀ i, (Value.slice aa n ac).ownBlock = some i → i < wo.heap.size) ∧ (∀ i, (Value.slice ba n bc).ownBlock = some i → i < wo.heap.size)) := ⟨row_lt HP.out.ra, row_lt HP.out.rb⟩
        by_cases hm2 : m = 2
        · subst hm2
          as_aux_lemma =>
            go_wp2_with (
              at_builtin
              obtain ⟨v2, W2, hrun, hrow, hg, hnr⟩ := copyP_run (W := (wo.alloc (Obj.cells #[.int .i64 what, .int .i64 xa, .int .i64 xb] 31)).alloc (Obj.cells #[] 40)) (B := w.heap.size) (gb := wo.heap.size + 1) (B0 := wo.heap.size + 1) (.slice aa n ac) l (World.ownsRow.alloc (World.ownsRow.alloc HP.out.ra _) _) (by omega) (by have := heap_alloc_new (wo.alloc (Obj.cells #[.int .i64 what, .int .i64 xa, .int .i64 xb] 31)) (Obj.cells #[] 40); rw [World.size_alloc] at this; exact this) (Nat.le_refl _) 24
              refine Lib.wpList_append_run _ rfl _ _ _ _ rfl _ _ rfl rfl _ _ hrun ?_
              obtain ⟨wa, wc, hv2, _⟩ := row_slice hrow
              rw [hln] at hv2
              subst hv2
              have HB2 : Below wo.heap.size wo W2 := (((Below.refl _ _).alloc (Nat.le_refl _) _).alloc (by simp) _).grown hg (by simp; omega) (fun k e => by have := Option.some.inj e; omega)
              have HX2 : W2.heap[wo.heap.size]? = some (.cells #[.int .i64 what, .int .i64 xa, .int .i64 xb] 31 (0, 0)) := (hg.block _ (by simp; omega) (fun e => by have := Option.some.inj e; omega)).trans ((Below.heap_alloc _ _ _ (by simp)).trans (heap_alloc_new wo _))
              have HB3 : Hid (Below wo.heap.size wo ((W2.alloc (Obj.cells #[.int .i64 0, .slice none 0 0] 26)).alloc (Obj.cells #[.int .i64 0, .slice none 0 0] 29))) := (HB2.alloc HB2.size _).alloc (by have := HB2.size; simp; omega) _
              have HW3 : Hid (Row ((W2.alloc (Obj.cells #[.int .i64 0, .slice none 0 0] 26)).alloc (Obj.cells #[.int .i64 0, .slice none 0 0] 29)) (wo.heap.size + 1) (.slice wa n wc) l) := World.ownsRow.alloc (World.ownsRow.alloc hrow _) _
              have HX3 : Hid (((W2.alloc (Obj.cells #[.int .i64 0, .slice none 0 0] 26)).alloc (Obj.cells #[.int .i64 0, .slice none 0 0] 29)).heap[wo.heap.size]? = some (.cells #[.int .i64 what, .int .i64 xa, .int .i64 xb] 31 (0, 0))) := ((Below.heap_alloc _ _ _ (by have := lt_of_heap HX2; simp; omega)).trans (Below.heap_alloc _ _ _ (lt_of_heap HX2))).trans HX2
              have HN3 : Hid (((W2.alloc (Obj.cells #[.int .i64 0, .slice none 0 0] 26)).alloc (Obj.cells #[.int .i64 0, .slice none 0 0] 29)).heap[W2.heap.size]? = some (.cells #[.int .i64 0, .slice none 0 0] 26 (0, 0))) := (Below.heap_alloc _ _ _ (by simp)).trans (heap_alloc_new W2 _)
              have HM3 : Hid (((W2.alloc (Obj.cells #[.int .i64 0, .slice none 0 0] 26)).alloc (Obj.cells #[.int .i64 0, .slice none 0 0] 29)).heap[W2.heap.size + 1]? = some (.cells #[.int .i64 0, .slice none 0 0] 29 (0, 0))) := by
                have := heap_alloc_new (W2.alloc (Obj.cells #[.int .i64 0, .slice none 0 0] 26)) (Obj.cells #[.int .i64 0, .slice none 0 0] 29)
                rw [World.size_alloc] at this
                exact this
              have HP3 : Hid (PI w ((W2.alloc (Obj.cells #[.int .i64 0, .slice none 0 0] 26)).alloc (Obj.cells #[.int .i64 0, .slice none 0 0] 29)) ab bb ver (.slice aa n ac) (.slice ba n bc) l) := HP.out.next HB3.out
              have hwl : wo.heap.size < W2.heap.size := lt_of_heap HX2
              have HWN : Hid (∀ i, (Value.slice wa n wc).ownBlock = some i → i < W2.heap.size) := row_lt hrow
              have H3 : Hid (R3 w wo ((W2.alloc (Obj.cells #[.int .i64 0, .slice none 0 0] 26)).alloc (Obj.cells #[.int .i64 0, .slice none 0 0] 29)) ab bb W2.heap.size what xa xb ver (.slice aa n ac) (.slice ba n bc) (.slice wa n wc) l) := ⟨HP3.out, HX3.out, HN3.out, HM3.out, HW3.out, HB3.out, hwl, fun i e => by have := HWN.out i e; omega⟩
              obtain ⟨g0, g1, g2⟩ := agg3 HX3.out
              obtain ⟨p0, p1, p2, p3⟩ := agg2 HP3.out.a
              obtain ⟨q0, q1, q2, q3⟩ := agg2 HP3.out.b
              clear hrun hrow hg hnr HB2 HX2 x0 x1 x2 x3 xa1 xa2)
            clear g0 g1 g2 p0 p1 p2 p3 q0 q1 q2 q3 HP3 HX3 HN3 HM3 HW3 HB3 HWN hwl
            generalize ((W2.alloc (Obj.cells #[.int .i64 0, .slice none 0 0] 26)).alloc (Obj.cells #[.int .i64 0, .slice none 0 0] 29)) = W at *
            generalize W2.heap.size = nb at *
            clear W2
            have hnbW : nb + 1 < W.heap.size := lt_of_heap H3.out.m
            have hwrW : wo.heap.size ≤ W.heap.size := H3.out.below.size
            have HC1 : Hid (∀ W, Row W w.heap.size (.slice aa n ac) l → Calls Tryd.prog 6 #[.agg #[.int .i64 ver, .slice aa n ac], .int .i64 xa] W fun r W' => ∃ a c d e, r = .returned (.tuple #[.agg #[.int .i64 (cutV l xa ver), .slice a (cutKx l xa).length c], .slice d (cutLx l xa).length e, errV (cutE l xa)]) ∧ Row W' W.heap.size (.slice a (cutKx l xa).length c) (cutKx l xa) ∧ Row W' W.heap.size (.slice d (cutLx l xa).length e) (cutLx l xa) ∧ Below W.heap.size W W') := fun W hr =>
              (cut_any (w := W) (B := w.heap.size) ver _ l xa hr (by omega) HOK.out ⟨hv0, by omega⟩ ⟨by omega, by omega⟩).mono (fun r W' h => h.norm)
            have HC2 : Hid (∀ W, RowR W w.heap.size (.slice ba n bc) l → Calls Tryd.prog 7 #[.agg #[.int .i64 ver, .slice ba n bc], .int .i64 xa] W fun r W' => ∃ a c d e, r = .returned (.tuple #[.agg #[.int .i64 (cutV l xa ver), .slice a (cutKx l xa).length c], .slice d (cutLx l xa).length e, .int .i64 (cutE l xa)]) ∧ RowR W' W.heap.size (.slice a (cutKx l xa).length c) (cutKx l xa) ∧ RowR W' W.heap.size (.slice d (cutLx l xa).length e) (cutLx l xa) ∧ Below W.heap.size W W') := fun W hr =>
              (cutR_any (w := W) (B := w.heap.size) ver _ l xa hr (by omega) HOK.out ⟨hv0, by omega⟩).mono (fun r W' h => h.norm)
            have HFI : Hid (Fine ver (cutE l xa) (cutV l xa ver) (cutKx l xa)) := cut_fine HOK.out HAP.out (by omega) hv0
            have hlf : (cutLx l xa).length ≤ 36 := by
              unfold cutLx
              split
              · exact Nat.le_trans (cutL_length l xa) (by omega)
              · decide
            generalize cutKx l xa = l' at *
            generalize cutLx l xa = lf at *
            generalize cutV l xa ver = ver' at *
            generalize cutE l xa = f at *
            have hl36 : l'.length ≤ 36 := HFI.out.1
            obtain ⟨n', hn'⟩ : ∃ k, l'.length = k := ⟨_, rfl⟩
            obtain ⟨nf, hnf⟩ : ∃ k, lf.length = k := ⟨_, rfl⟩
            rw [hn'] at hl36
            rw [hnf] at hlf
            simp only [hn', hnf] at HC1 HC2
            refine (HC1.out _ H3.out.p.ra).mono ?_
            rintro r W4 ⟨ca, cc, fa, fc, rfl, hr1, hr2, hb4⟩
            have HR1 : Hid (Row W4 W.heap.size (.slice ca n' cc) l') := hr1
            have HR2 : Hid (Row W4 W.heap.size (.slice fa nf fc) lf) := hr2
            have H4 : Hid (R3 w wo (W4.alloc (Obj.cells #[.int .i64 ver', .slice ca n' cc] 26)) ab bb nb what xa xb ver (.slice aa n ac) (.slice ba n bc) (.slice wa n wc) l) := (H3.out.next hb4).alloc _
            have hWl := hb4.size
            clear hr1 hr2 hb4 HC1
            obtain ⟨g0, g1, g2⟩ := agg3 H4.out.x
            obtain ⟨q0, q1, q2, q3⟩ := agg2 H4.out.p.b
            go_wp2_with fail
            refine (HC2.out _ H4.out.p.rb).mono ?_
            rintro r W5 ⟨da, dc, ga, gc, rfl, hr3, hr4, hb5⟩
            have hc5 : W5.heap[W4.heap.size]? = some (.cells #[.int .i64 ver', .slice ca n' cc] 26 (0, 0)) := (hb5.block _ (by simp)).trans (heap_alloc_new W4 _)
            have H6 : Hid (R3 w wo (W5.alloc (Obj.cells #[.int .i64 ver', .slice da n' dc] 29)) ab bb nb what xa xb ver (.slice aa n ac) (.slice ba n bc) (.slice wa n wc) l) := (H4.out.next hb5).alloc _
            have HC6 : Hid ((W5.alloc (Obj.cells #[.int .i64 ver', .slice da n' dc] 29)).heap[W4.heap.size]? = some (.cells #[.int .i64 ver', .slice ca n' cc] 26 (0, 0))) := (Below.heap_alloc _ _ _ (lt_of_heap hc5)).trans hc5
            have HD6 : Hid ((W5.alloc (Obj.cells #[.int .i64 ver', .slice da n' dc] 29)).heap[W5.heap.size]? = some (.cells #[.int .i64 ver', .slice da n' dc] 29 (0, 0))) := heap_alloc_new _ _
            have HR61 : Hid (Row (W5.alloc (Obj.cells #[.int .i64 ver', .slice da n' dc] 29)) W.heap.size (.slice ca n' cc) l') := World.ownsRow.alloc (row_below (World.ownsRow.alloc HR1.out _) hb5 (Nat.le_refl _)) _
            have HR62 : Hid (Row (W5.alloc (Obj.cells #[.int .i64 ver', .slice da n' dc] 29)) W.heap.size (.slice fa nf fc) lf) := World.ownsRow.alloc (row_below (World.ownsRow.alloc HR2.out _) hb5 (Nat.le_refl _)) _
            have HR63 : Hid (RowR (W5.alloc (Obj.cells #[.int .i64 ver', .slice da n' dc] 29)) W.heap.size (.slice da n' dc) l') := row_base (World.ownsRow.alloc hr3 _) (by simp; omega)
            have HR64 : Hid (RowR (W5.alloc (Obj.cells #[.int .i64 ver', .slice da n' dc] 29)) W.heap.size (.slice ga nf gc) lf) := row_base (World.ownsRow.alloc hr4 _) (by simp; omega)
            have hW5 : W4.heap.size < W5.heap.size := lt_of_heap hc5
            have hW4 : W.heap.size ≤ W4.heap.size := hWl
            clear hr3 hr4 hb5 hc5 HC2 HR1 HR2 H4 g0 g1 g2 q0 q1 q2 q3
            go_wp2_with fail
            generalize W5.alloc (Obj.cells #[.int .i64 ver', .slice da n' dc] 29) = W6 at *
            generalize W5.heap.size = db at *
            generalize W4.heap.size = cb at *
            go_loopw [18] (fun i wq => ∃ j : Nat, j ≤ nf ∧ i = .int .i64 j ∧ Below W6.heap.size W6 wq) (fun i _ => nf - (intOf i).toNat)
            case atStart => exact ⟨0, Nat.zero_le _, rfl, Below.refl _ _⟩
            case round =>
              obtain ⟨j, hj, rfl, hBq⟩ := hrel
              have HBQ : Hid (Below W6.heap.size W6 wr) := hBq
              clear hBq
              by_cases hjl : j < nf
              · have hRa := row_below HR62.out HBQ.out (Nat.le_refl _)
                have hRb := row_below HR64.out HBQ.out (Nat.le_refl _)
                obtain ⟨ya, cap3, he⟩ := row_some hRa (by omega)
                rw [hnf] at he
                cases he
                obtain ⟨yb, cap4, he⟩ := row_some hRb (by omega)
                rw [hnf] at he
                cases he
                obtain ⟨e0, e1⟩ := Row.ext hRa j (by omega)
                obtain ⟨f0, f1⟩ := RowR.ext hRb j (by omega)
                clear hRa hRb
                generalize lf[j] = y at *
                obtain ⟨yp, yl⟩ := y
                dsimp only at e0 e1 f0 f1
                go_wp2_with fail
                refine wp_region_held_drew (S := fun W => W.cell? ⟨ya, j * 2, none⟩ = some (.int .i64 yp) ∧ W.cell? ⟨ya, j * 2 + 1, none⟩ = some (.int .i64 yl) ∧ W.cell? ⟨yb, j * 2, none⟩ = some (.int .i64 yp) ∧ W.cell? ⟨yb, j * 2 + 1, none⟩ = some (.int .i64 yl)) (by kernel_rfl) (by exact ⟨e0, e1, f0, f1⟩) (fun hHeld => ?_)
                change wpAnyH _ _ _ _ _ 9 (Array.replicate 9 false) _ _
                refine wpAnyH_take (i := 0) (oi := _) (v := _) (by simp only [List.getElem?_toArray, List.getElem?_cons_zero]; rfl) (by kernel_rfl) (by kernel_rfl) (by kernel_rfl) (by exact fun _ _ _ h => h) (Or.inl ⟨by rfl, by intro w' hSw; (try dsimp only at hSw); first | (go_simp; done) | (go_simp; with_reducible rfl)⟩) hHeld ?_
                simp only [Act.put, List.setIfInBounds_toArray, List.set_cons_zero, List.set_cons_succ]
                refine wpAnyH_take (i := 1) (oi := _) (v := _) (by simp only [List.getElem?_toArray, List.getElem?_cons_succ, List.getElem?_cons_zero]; rfl) (by kernel_rfl) (by kernel_rfl) (by kernel_rfl) (by exact fun _ _ _ h => h) (Or.inl ⟨by rfl, by intro w' hSw; (try dsimp only at hSw); first | (go_simp; done) | (go_simp; with_reducible rfl)⟩) hHeld ?_
                simp only [Act.put, List.setIfInBounds_toArray, List.set_cons_zero, List.set_cons_succ]
                refine wpAnyH_take (i := 2) (oi := _) (v := _) (by simp only [List.getElem?_toArray, List.getElem?_cons_succ, List.getElem?_cons_zero]; rfl) (by kernel_rfl) (by kernel_rfl) (by kernel_rfl) (by exact fun _ _ _ h => h) (Or.inl ⟨by rfl, by intro w' hSw; (try dsimp only at hSw); first | (go_simp; done) | (go_simp; with_reducible rfl)⟩) hHeld ?_
                simp only [Act.put, List.setIfInBounds_toArray, List.set_cons_zero, List.set_cons_succ]
                refine wpAnyH_take (i := 3) (oi := _) (v := _) (by simp only [List.getElem?_toArray, List.getElem?_cons_succ, List.getElem?_cons_zero]; rfl) (by kernel_rfl) (by kernel_rfl) (by kernel_rfl) (by exact fun _ _ _ h => h) (Or.inl ⟨by rfl, by intro w' hSw; (try dsimp only at hSw); first | (go_simp; done) | (go_simp; with_reducible rfl)⟩) hHeld ?_
                simp only [Act.put, List.setIfInBounds_toArray, List.set_cons_zero, List.set_cons_succ]
                refine wpAnyH_take (i := 4) (oi := _) (v := _) (by simp only [List.getElem?_toArray, List.getElem?_cons_succ, List.getElem?_cons_zero]; rfl) (by kernel_rfl) (by kernel_rfl) (by kernel_rfl) (by exact fun _ _ _ h => h) (Or.inl ⟨by rfl, by intro w' hSw; (try dsimp only at hSw); first | (go_simp; done) | (go_simp; with_reducible rfl)⟩) hHeld ?_
                simp only [Act.put, List.setIfInBounds_toArray, List.set_cons_zero, List.set_cons_succ]
                refine wpAnyH_take (i := 5) (oi := _) (v := _) (by simp only [List.getElem?_toArray, List.getElem?_cons_succ, List.getElem?_cons_zero]; rfl) (by kernel_rfl) (by kernel_rfl) (by kernel_rfl) (by exact fun _ _ _ h => h) (Or.inl ⟨by rfl, by intro w' hSw; (try dsimp only at hSw); first | (go_simp; done) | (go_simp; with_reducible rfl)⟩) hHeld ?_
                simp only [Act.put, List.setIfInBounds_toArray, List.set_cons_zero, List.set_cons_succ]
                refine wpAnyH_take (i := 6) (oi := _) (v := _) (by simp only [List.getElem?_toArray, List.getElem?_cons_succ, List.getElem?_cons_zero]; rfl) (by kernel_rfl) (by kernel_rfl) (by kernel_rfl) (by exact fun _ _ _ h => h) (Or.inl ⟨by rfl, by intro w' hSw; (try dsimp only at hSw); first | (go_simp; done) | (go_simp; with_reducible rfl)⟩) hHeld ?_
                simp only [Act.put, List.setIfInBounds_toArray, List.set_cons_zero, List.set_cons_succ]
                refine wpAnyH_take (i := 7) (oi := _) (v := _) (by simp only [List.getElem?_toArray, List.getElem?_cons_succ, List.getElem?_cons_zero]; rfl) (by kernel_rfl) (by kernel_rfl) (by kernel_rfl) (by exact fun _ _ _ h => h) (Or.inl ⟨by rfl, by intro w' hSw; (try dsimp only at hSw); first | (go_simp; done) | (go_simp; with_reducible rfl)⟩) hHeld ?_
                simp only [Act.put, List.setIfInBounds_toArray, List.set_cons_zero, List.set_cons_succ]
                refine wpAnyH_take (i := 8) (oi := _) (v := _) (by simp only [List.getElem?_toArray, List.getElem?_cons_succ, List.getElem?_cons_zero]; rfl) (by kernel_rfl) (by kernel_rfl) (by kernel_rfl) (by exact fun _ _ _ h => h) (Or.inl ⟨by rfl, by intro w' hSw; (try dsimp only at hSw); first | (go_simp; done) | (go_simp; with_reducible rfl)⟩) hHeld ?_
                simp only [Act.put, List.setIfInBounds_toArray, List.set_cons_zero, List.set_cons_succ]
                refine wpAnyH_done (by kernel_rfl) ?_ _
                go_wp2
                go_roundw
                case rel => exact ⟨j + 1, by omega, by go_num, HBQ.out.drew⟩
                case measure => simp [intOf]; omega
              · obtain rfl : j = nf := by omega
                have H7 : Hid (R3 w wo wr ab bb nb what xa xb ver (.slice aa n ac) (.slice ba n bc) (.slice wa n wc) l) := H6.out.next HBQ.out
                have HC7 := (HBQ.out.block _ (lt_of_heap HC6.out)).trans HC6.out
                have HD7 := (HBQ.out.block _ (lt_of_heap HD6.out)).trans HD6.out
                have HR71 : Hid (Row wr W.heap.size (.slice ca n' cc) l') := row_below HR61.out HBQ.out (Nat.le_refl _)
                have HR73 : Hid (RowR wr W.heap.size (.slice da n' dc) l') := row_below HR63.out HBQ.out (Nat.le_refl _)
                obtain ⟨c0, c1, _, _⟩ := agg2 HC7
                obtain ⟨d0, d1, _, _⟩ := agg2 HD7
                clear HC7 HD7
                go_wp2_with fail
                have hnl := lt_of_heap H7.out.m
                have hng := H7.out.nge
                have H7d : Hid (R3 w wo wr.drew ab bb nb what xa xb ver (.slice aa n ac) (.slice ba n bc) (.slice wa n wc) l) := H7.out.drew
                have HRd1 : Hid (Row wr.drew W.heap.size (.slice ca n' cc) l') := World.ownsRow.drew HR71.out
                have HRd2 : Hid (RowR wr.drew W.heap.size (.slice da n' dc) l') := World.ownsRow.drew HR73.out
                refine wp_region_held_drew (S := fun W => W.cell? ⟨cb, 0, none⟩ = some (.int .i64 ver') ∧ W.cell? ⟨cb, 1, none⟩ = some (.slice ca n' cc) ∧ W.cell? ⟨db, 0, none⟩ = some (.int .i64 ver') ∧ W.cell? ⟨db, 1, none⟩ = some (.slice da n' dc)) (by kernel_rfl) (by exact ⟨c0, c1, d0, d1⟩) (fun hHeld => ?_)
                change wpAnyH _ _ _ _ _ 8 (Array.replicate 8 false) _ _
                refine wpAnyH_take (i := 0) (oi := _) (v := _) (by simp only [List.getElem?_toArray, List.getElem?_cons_zero]; rfl) (by kernel_rfl) (by kernel_rfl) (by kernel_rfl) (by exact fun _ _ _ h => h) (Or.inl ⟨by rfl, by intro w' hSw; (try dsimp only at hSw); first | (go_simp; done) | (go_simp; with_reducible rfl)⟩) hHeld ?_
                simp only [Act.put, List.setIfInBounds_toArray, List.set_cons_zero, List.set_cons_succ]
                refine wpAnyH_take (i := 1) (oi := _) (v := _) (by simp only [List.getElem?_toArray, List.getElem?_cons_succ, List.getElem?_cons_zero]; rfl) (by kernel_rfl) (by kernel_rfl) (by kernel_rfl) (by exact fun _ _ _ h => h) (Or.inl ⟨by rfl, by intro w' hSw; (try dsimp only at hSw); first | (go_simp; done) | (go_simp; with_reducible rfl)⟩) hHeld ?_
                simp only [Act.put, List.setIfInBounds_toArray, List.set_cons_zero, List.set_cons_succ]
                refine wpAnyH_take (i := 2) (oi := _) (v := _) (by simp only [List.getElem?_toArray, List.getElem?_cons_succ, List.getElem?_cons_zero]; rfl) (by kernel_rfl) (by kernel_rfl) (by kernel_rfl) (by exact fun _ _ _ h => h) (Or.inl ⟨by rfl, by intro w' hSw; (try dsimp only at hSw); first | (go_simp; done) | (go_simp; with_reducible rfl)⟩) hHeld ?_
                simp only [Act.put, List.setIfInBounds_toArray, List.set_cons_zero, List.set_cons_succ]
                refine wpAnyH_take (i := 3) (oi := _) (v := _) (by simp only [List.getElem?_toArray, List.getElem?_cons_succ, List.getElem?_cons_zero]; rfl) (by kernel_rfl) (by kernel_rfl) (by kernel_rfl) (by exact fun _ _ _ h => h) (Or.inl ⟨by rfl, by intro w' hSw; (try dsimp only at hSw); first | (go_simp; done) | (go_simp; with_reducible rfl)⟩) hHeld ?_
                simp only [Act.put, List.setIfInBounds_toArray, List.set_cons_zero, List.set_cons_succ]
                refine wpAnyH_ready (rs := [4]) (by kernel_rfl) (by simp) ?_
                refine AllReadyH.cons rfl (fun K hK => ?_) AllReadyH.nil
                generalize wr.drew = wd at *
                obtain ⟨y0, y1, z0, z1⟩ := agg2 H7d.out.n
                go_simp
                refine hK.out _ _ ⟨?_, ?_, ?_, ?_⟩ (fun hHeld => ?_)
                · rw [World.cell?_setCell_other _ _ _ _ (by intro h; simp only [Addr.mk.injEq] at h; omega), World.cell?_setCell_other _ _ _ _ (by intro h; simp only [Addr.mk.injEq] at h; omega)]; exact hHeld.1
                · rw [World.cell?_setCell_other _ _ _ _ (by intro h; simp only [Addr.mk.injEq] at h; omega), World.cell?_setCell_other _ _ _ _ (by intro h; simp only [Addr.mk.injEq] at h; omega)]; exact hHeld.2.1
                · rw [World.cell?_setCell_other _ _ _ _ (by intro h; simp only [Addr.mk.injEq] at h; omega), World.cell?_setCell_other _ _ _ _ (by intro h; simp only [Addr.mk.injEq] at h; omega)]; exact hHeld.2.2.1
                · rw [World.cell?_setCell_other _ _ _ _ (by intro h; simp only [Addr.mk.injEq] at h; omega), World.cell?_setCell_other _ _ _ _ (by intro h; simp only [Addr.mk.injEq] at h; omega)]; exact hHeld.2.2.2
                clear hK K y0 y1 z0 z1
                refine wpAnyH_ready (rs := [5]) (by kernel_rfl) (by simp) ?_
                refine AllReadyH.cons rfl (fun K hK => ?_) AllReadyH.nil
                have hm7 : ((wd.setCell ⟨nb, 0, none⟩ (.int .i64 ver')).setCell ⟨nb, 1, none⟩ (.slice ca n' cc)).heap[nb + 1]? = some (.cells #[.int .i64 0, .slice none 0 0] 29 (0, 0)) := (set2_other (by omega) _ _).trans H7d.out.m
                obtain ⟨y0, y1, z0, z1⟩ := agg2 hm7
                go_simp
                refine hK.out _ _ ⟨?_, ?_, ?_, ?_⟩ (fun hHeld => ?_)
                · rw [World.cell?_setCell_other _ _ _ _ (by intro h; simp only [Addr.mk.injEq] at h; omega), World.cell?_setCell_other _ _ _ _ (by intro h; simp only [Addr.mk.injEq] at h; omega)]; exact hHeld.1
                · rw [World.cell?_setCell_other _ _ _ _ (by intro h; simp only [Addr.mk.injEq] at h; omega), World.cell?_setCell_other _ _ _ _ (by intro h; simp only [Addr.mk.injEq] at h; omega)]; exact hHeld.2.1
                · rw [World.cell?_setCell_other _ _ _ _ (by intro h; simp only [Addr.mk.injEq] at h; omega), World.cell?_setCell_other _ _ _ _ (by intro h; simp only [Addr.mk.injEq] at h; omega)]; exact hHeld.2.2.1
                · rw [World.cell?_setCell_other _ _ _ _ (by intro h; simp only [Addr.mk.injEq] at h; omega), World.cell?_setCell_other _ _ _ _ (by intro h; simp only [Addr.mk.injEq] at h; omega)]; exact hHeld.2.2.2
                clear hK K y0 y1 z0 z1 hm7
                refine wpAnyH_take (i := 6) (oi := _) (v := _) (by simp only [List.getElem?_toArray, List.getElem?_cons_succ, List.getElem?_cons_zero]; rfl) (by kernel_rfl) (by kernel_rfl) (by kernel_rfl) (by exact fun _ _ _ h => h) (Or.inl ⟨by rfl, by intro w' hSw; (try dsimp only at hSw); first | (go_simp; done) | (go_simp; with_reducible rfl)⟩) hHeld ?_
                simp only [Act.put, List.setIfInBounds_toArray, List.set_cons_zero, List.set_cons_succ]
                refine wpAnyH_take (i := 7) (oi := _) (v := _) (by simp only [List.getElem?_toArray, List.getElem?_cons_succ, List.getElem?_cons_zero]; rfl) (by kernel_rfl) (by kernel_rfl) (by kernel_rfl) (by exact fun _ _ _ h => h) (Or.inl ⟨by rfl, by intro w' hSw; (try dsimp only at hSw); first | (go_simp; done) | (go_simp; with_reducible rfl)⟩) hHeld ?_
                simp only [Act.put, List.setIfInBounds_toArray, List.set_cons_zero, List.set_cons_succ]
                refine wpAnyH_done (by kernel_rfl) ?_ _
                have H8 : Hid (R5 w wo ((((wd.setCell ⟨nb, 0, none⟩ (.int .i64 ver')).setCell ⟨nb, 1, none⟩ (.slice ca n' cc)).setCell ⟨nb + 1, 0, none⟩ (.int .i64 ver')).setCell ⟨nb + 1, 1, none⟩ (.slice da n' dc)) ab bb nb ver ver' (.slice aa n ac) (.slice ba n bc) (.slice wa n wc) (.slice ca n' cc) (.slice da n' dc) l l') := R3.put (W0 := W) H7d.out hab HVL.out hnbW hwrW HRd1.out HRd2.out
                clear hHeld
                generalize ((((wd.setCell ⟨nb, 0, none⟩ (.int .i64 ver')).setCell ⟨nb, 1, none⟩ (.slice ca n' cc)).setCell ⟨nb + 1, 0, none⟩ (.int .i64 ver')).setCell ⟨nb + 1, 1, none⟩ (.slice da n' dc)) = W8 at *
                clear H7 H7d HRd1 HRd2 c0 c1 d0 d1
                go_wp2_with fail
                have hE8 := HE.out.below H8.out.p.below HE.out.lt
                refine (code_any f _ hE8).mono ?_
                rintro r W9 ⟨rfl, hb9⟩
                have H9 : Hid (R5 w wo W9 ab bb nb ver ver' (.slice aa n ac) (.slice ba n bc) (.slice wa n wc) (.slice ca n' cc) (.slice da n' dc) l l') := H8.out.next hb9
                clear hb9 H8 hE8
                obtain ⟨c0, c1, _, _⟩ := agg2 H9.out.q.n
                obtain ⟨d0, d1, _, _⟩ := agg2 H9.out.q.w
                go_wp2_with fail
                refine (same_any (w := W9) (B := wo.heap.size) (C := wo.heap.size) ver' _ _ l' H9.out.q.rn H9.out.q.rw (by omega)).mono ?_
                rintro r Wa ⟨rfl, hba⟩
                have Ha : Hid (R5 w wo Wa ab bb nb ver ver' (.slice aa n ac) (.slice ba n bc) (.slice wa n wc) (.slice ca n' cc) (.slice da n' dc) l l') := H9.out.next hba
                clear hba H9 c0 c1 d0 d1
                obtain ⟨p0, p1, _, _⟩ := agg2 Ha.out.p.a
                go_wp2_with fail
                clear p0 p1
                go_loopw [25] (fun i wq => ∃ j : Nat, j ≤ n ∧ i = .int .i64 j ∧ Below Wa.heap.size Wa wq) (fun i _ => n - (intOf i).toNat)
                case atStart => exact ⟨0, Nat.zero_le _, rfl, Below.refl _ _⟩
                case round =>
                  obtain ⟨j, hj, rfl, hBq⟩ := hrel
                  have Hb : Hid (R5 w wo wr ab bb nb ver ver' (.slice aa n ac) (.slice ba n bc) (.slice wa n wc) (.slice ca n' cc) (.slice da n' dc) l l') := Ha.out.next hBq
                  have HBQ : Hid (Below Wa.heap.size Wa wr) := hBq
                  clear hBq
                  obtain ⟨p0, p1, _, _⟩ := agg2 Hb.out.p.a
                  by_cases hjl : j < n
                  · obtain ⟨ya, cap3, he⟩ := row_some Hb.out.p.ra (by omega)
                    rw [hln] at he
                    cases he
                    obtain ⟨yb, cap4, he⟩ := row_some Hb.out.was (by omega)
                    rw [hln] at he
                    cases he
                    obtain ⟨e0, e1⟩ := Hb.out.p.ra.ext j (by omega)
                    obtain ⟨f0, f1⟩ := Hb.out.was.ext j (by omega)
                    generalize l[j] = y at *
                    obtain ⟨yp, yl⟩ := y
                    dsimp only at e0 e1 f0 f1
                    go_wp2_with fail
                    refine wp_region_held_drew (S := fun W => W.cell? ⟨ab, 1, none⟩ = some (.slice (some ⟨ya, 0, none⟩) n ac) ∧ W.cell? ⟨ya, j * 2, none⟩ = some (.int .i64 yp) ∧ W.cell? ⟨ya, j * 2 + 1, none⟩ = some (.int .i64 yl) ∧ W.cell? ⟨yb, j * 2, none⟩ = some (.int .i64 yp) ∧ W.cell? ⟨yb, j * 2 + 1, none⟩ = some (.int .i64 yl)) (by kernel_rfl) (by exact ⟨p1, e0, e1, f0, f1⟩) (fun hHeld => ?_)
                    change wpAnyH _ _ _ _ _ 10 (Array.replicate 10 false) _ _
                    refine wpAnyH_take (i := 0) (oi := _) (v := _) (by simp only [List.getElem?_toArray, List.getElem?_cons_zero]; rfl) (by kernel_rfl) (by kernel_rfl) (by kernel_rfl) (by exact fun _ _ _ h => h) (Or.inl ⟨by rfl, by intro w' hSw; (try dsimp only at hSw); first | (go_simp; done) | (go_simp; with_reducible rfl)⟩) hHeld ?_
                    simp only [Act.put, List.setIfInBounds_toArray, List.set_cons_zero, List.set_cons_succ]
                    refine wpAnyH_take (i := 1) (oi := _) (v := _) (by simp only [List.getElem?_toArray, List.getElem?_cons_succ, List.getElem?_cons_zero]; rfl) (by kernel_rfl) (by kernel_rfl) (by kernel_rfl) (by exact fun _ _ _ h => h) (Or.inl ⟨by rfl, by intro w' hSw; (try dsimp only at hSw); first | (go_simp; done) | (go_simp; with_reducible rfl)⟩) hHeld ?_
                    simp only [Act.put, List.setIfInBounds_toArray, List.set_cons_zero, List.set_cons_succ]
                    refine wpAnyH_take (i := 2) (oi := _) (v := _) (by simp only [List.getElem?_toArray, List.getElem?_cons_succ, List.getElem?_cons_zero]; rfl) (by kernel_rfl) (by kernel_rfl) (by kernel_rfl) (by exact fun _ _ _ h => h) (Or.inl ⟨by rfl, by intro w' hSw; (try dsimp only at hSw); first | (go_simp; done) | (go_simp; with_reducible rfl)⟩) hHeld ?_
                    simp only [Act.put, List.setIfInBounds_toArray, List.set_cons_zero, List.set_cons_succ]
                    refine wpAnyH_take (i := 3) (oi := _) (v := _) (by simp only [List.getElem?_toArray, List.getElem?_cons_succ, List.getElem?_cons_zero]; rfl) (by kernel_rfl) (by kernel_rfl) (by kernel_rfl) (by exact fun _ _ _ h => h) (Or.inl ⟨by rfl, by intro w' hSw; (try dsimp only at hSw); first | (go_simp; done) | (go_simp; with_reducible rfl)⟩) hHeld ?_
                    simp only [Act.put, List.setIfInBounds_toArray, List.set_cons_zero, List.set_cons_succ]
                    refine wpAnyH_take (i := 4) (oi := _) (v := _) (by simp only [List.getElem?_toArray, List.getElem?_cons_succ, List.getElem?_cons_zero]; rfl) (by kernel_rfl) (by kernel_rfl) (by kernel_rfl) (by exact fun _ _ _ h => h) (Or.inl ⟨by rfl, by intro w' hSw; (try dsimp only at hSw); first | (go_simp; done) | (go_simp; with_reducible rfl)⟩) hHeld ?_
                    simp only [Act.put, List.setIfInBounds_toArray, List.set_cons_zero, List.set_cons_succ]
                    refine wpAnyH_take (i := 5) (oi := _) (v := _) (by simp only [List.getElem?_toArray, List.getElem?_cons_succ, List.getElem?_cons_zero]; rfl) (by kernel_rfl) (by kernel_rfl) (by kernel_rfl) (by exact fun _ _ _ h => h) (Or.inl ⟨by rfl, by intro w' hSw; (try dsimp only at hSw); first | (go_simp; done) | (go_simp; with_reducible rfl)⟩) hHeld ?_
                    simp only [Act.put, List.setIfInBounds_toArray, List.set_cons_zero, List.set_cons_succ]
                    refine wpAnyH_take (i := 6) (oi := _) (v := _) (by simp only [List.getElem?_toArray, List.getElem?_cons_succ, List.getElem?_cons_zero]; rfl) (by kernel_rfl) (by kernel_rfl) (by kernel_rfl) (by exact fun _ _ _ h => h) (Or.inl ⟨by rfl, by intro w' hSw; (try dsimp only at hSw); first | (go_simp; done) | (go_simp; with_reducible rfl)⟩) hHeld ?_
                    simp only [Act.put, List.setIfInBounds_toArray, List.set_cons_zero, List.set_cons_succ]
                    refine wpAnyH_take (i := 7) (oi := _) (v := _) (by simp only [List.getElem?_toArray, List.getElem?_cons_succ, List.getElem?_cons_zero]; rfl) (by kernel_rfl) (by kernel_rfl) (by kernel_rfl) (by exact fun _ _ _ h => h) (Or.inl ⟨by rfl, by intro w' hSw; (try dsimp only at hSw); first | (go_simp; done) | (go_simp; with_reducible rfl)⟩) hHeld ?_
                    simp only [Act.put, List.setIfInBounds_toArray, List.set_cons_zero, List.set_cons_succ]
                    refine wpAnyH_take (i := 8) (oi := _) (v := _) (by simp only [List.getElem?_toArray, List.getElem?_cons_succ, List.getElem?_cons_zero]; rfl) (by kernel_rfl) (by kernel_rfl) (by kernel_rfl) (by exact fun _ _ _ h => h) (Or.inl ⟨by rfl, by intro w' hSw; (try dsimp only at hSw); first | (go_simp; done) | (go_simp; with_reducible rfl)⟩) hHeld ?_
                    simp only [Act.put, List.setIfInBounds_toArray, List.set_cons_zero, List.set_cons_succ]
                    refine wpAnyH_take (i := 9) (oi := _) (v := _) (by simp only [List.getElem?_toArray, List.getElem?_cons_succ, List.getElem?_cons_zero]; rfl) (by kernel_rfl) (by kernel_rfl) (by kernel_rfl) (by exact fun _ _ _ h => h) (Or.inl ⟨by rfl, by intro w' hSw; (try dsimp only at hSw); first | (go_simp; done) | (go_simp; with_reducible rfl)⟩) hHeld ?_
                    simp only [Act.put, List.setIfInBounds_toArray, List.set_cons_zero, List.set_cons_succ]
                    refine wpAnyH_done (by kernel_rfl) ?_ _
                    go_wp2
                    go_roundw
                    case rel => exact ⟨j + 1, by omega, by go_num, HBQ.out.drew⟩
                    case measure => simp [intOf]; omega
                  · obtain rfl : j = n := by omega
                    by_cases hf0 : f = 0
                    · have hf0' : (f == 0) = true := by rw [beq_iff_eq]; exact hf0
                      obtain ⟨hok', hap', hv1', hv2'⟩ := HFI.out.2 hf0
                      have HOK' : Hid (OkL l') := hok'
                      have HAP' : Hid (Apart l') := hap'
                      clear hok' hap' hf0
                      obtain ⟨c0, c1, _, _⟩ := agg2 Hb.out.q.n
                      obtain ⟨d0, d1, _, _⟩ := agg2 Hb.out.q.w
                      have Hbd : Hid (R5 w wo wr.drew ab bb nb ver ver' (.slice aa j ac) (.slice ba j bc) (.slice wa j wc) (.slice ca n' cc) (.slice da n' dc) l l') := Hb.out.next (Below.refl _ _).drew
                      have hne := HP.out.abne
                      go_wp2_with fail
                      refine wp_region_held_drew (S := fun W => W.cell? ⟨nb, 0, none⟩ = some (.int .i64 ver') ∧ W.cell? ⟨nb, 1, none⟩ = some (.slice ca n' cc) ∧ W.cell? ⟨nb + 1, 0, none⟩ = some (.int .i64 ver') ∧ W.cell? ⟨nb + 1, 1, none⟩ = some (.slice da n' dc)) (by kernel_rfl) (by exact ⟨c0, c1, d0, d1⟩) (fun hHeld => ?_)
                      change wpAnyH _ _ _ _ _ 4 (Array.replicate 4 false) _ _
                      refine wpAnyH_take (i := 0) (oi := _) (v := _) (by simp only [List.getElem?_toArray, List.getElem?_cons_zero]; rfl) (by kernel_rfl) (by kernel_rfl) (by kernel_rfl) (by exact fun _ _ _ h => h) (Or.inl ⟨by rfl, by intro w' hSw; (try dsimp only at hSw); first | (go_simp; done) | (go_simp; with_reducible rfl)⟩) hHeld ?_
                      simp only [Act.put, List.setIfInBounds_toArray, List.set_cons_zero, List.set_cons_succ]
                      refine wpAnyH_take (i := 1) (oi := _) (v := _) (by simp only [List.getElem?_toArray, List.getElem?_cons_succ, List.getElem?_cons_zero]; rfl) (by kernel_rfl) (by kernel_rfl) (by kernel_rfl) (by exact fun _ _ _ h => h) (Or.inl ⟨by rfl, by intro w' hSw; (try dsimp only at hSw); first | (go_simp; done) | (go_simp; with_reducible rfl)⟩) hHeld ?_
                      simp only [Act.put, List.setIfInBounds_toArray, List.set_cons_zero, List.set_cons_succ]
                      refine wpAnyH_ready (rs := [2]) (by kernel_rfl) (by simp) ?_
                      refine AllReadyH.cons rfl (fun K hK => ?_) AllReadyH.nil
                      generalize wr.drew = wd at *
                      obtain ⟨y0, y1, z0, z1⟩ := agg2 Hbd.out.p.a
                      go_simp
                      refine hK.out _ _ ⟨?_, ?_, ?_, ?_⟩ (fun hHeld => ?_)
                      · rw [World.cell?_setCell_other _ _ _ _ (by intro h; simp only [Addr.mk.injEq] at h; omega), World.cell?_setCell_other _ _ _ _ (by intro h; simp only [Addr.mk.injEq] at h; omega)]; exact hHeld.1
                      · rw [World.cell?_setCell_other _ _ _ _ (by intro h; simp only [Addr.mk.injEq] at h; omega), World.cell?_setCell_other _ _ _ _ (by intro h; simp only [Addr.mk.injEq] at h; omega)]; exact hHeld.2.1
                      · rw [World.cell?_setCell_other _ _ _ _ (by intro h; simp only [Addr.mk.injEq] at h; omega), World.cell?_setCell_other _ _ _ _ (by intro h; simp only [Addr.mk.injEq] at h; omega)]; exact hHeld.2.2.1
                      · rw [World.cell?_setCell_other _ _ _ _ (by intro h; simp only [Addr.mk.injEq] at h; omega), World.cell?_setCell_other _ _ _ _ (by intro h; simp only [Addr.mk.injEq] at h; omega)]; exact hHeld.2.2.2
                      clear hK K y0 y1 z0 z1
                      refine wpAnyH_ready (rs := [3]) (by kernel_rfl) (by simp) ?_
                      refine AllReadyH.cons rfl (fun K hK => ?_) AllReadyH.nil
                      have hm7 : ((wd.setCell ⟨ab, 0, none⟩ (.int .i64 ver')).setCell ⟨ab, 1, none⟩ (.slice ca n' cc)).heap[bb]? = some (.cells #[.int .i64 ver, .slice ba j bc] 29 (0, 0)) := (set2_other (fun e => hne e.symm) _ _).trans Hbd.out.p.b
                      obtain ⟨y0, y1, z0, z1⟩ := agg2 hm7
                      go_simp
                      refine hK.out _ _ ⟨?_, ?_, ?_, ?_⟩ (fun hHeld => ?_)
                      · rw [World.cell?_setCell_other _ _ _ _ (by intro h; simp only [Addr.mk.injEq] at h; omega), World.cell?_setCell_other _ _ _ _ (by intro h; simp only [Addr.mk.injEq] at h; omega)]; exact hHeld.1
                      · rw [World.cell?_setCell_other _ _ _ _ (by intro h; simp only [Addr.mk.injEq] at h; omega), World.cell?_setCell_other _ _ _ _ (by intro h; simp only [Addr.mk.injEq] at h; omega)]; exact hHeld.2.1
                      · rw [World.cell?_setCell_other _ _ _ _ (by intro h; simp only [Addr.mk.injEq] at h; omega), World.cell?_setCell_other _ _ _ _ (by intro h; simp only [Addr.mk.injEq] at h; omega)]; exact hHeld.2.2.1
                      · rw [World.cell?_setCell_other _ _ _ _ (by intro h; simp only [Addr.mk.injEq] at h; omega), World.cell?_setCell_other _ _ _ _ (by intro h; simp only [Addr.mk.injEq] at h; omega)]; exact hHeld.2.2.2
                      clear hK K y0 y1 z0 z1 hm7
                      refine wpAnyH_done (by kernel_rfl) ?_ _
                      have Hc : Hid (PI w ((((wd.setCell ⟨ab, 0, none⟩ (.int .i64 ver')).setCell ⟨ab, 1, none⟩ (.slice ca n' cc)).setCell ⟨bb, 0, none⟩ (.int .i64 ver')).setCell ⟨bb, 1, none⟩ (.slice da n' dc)) ab bb ver' (.slice ca n' cc) (.slice da n' dc) l') := PI.put HP.out Hbd.out.q.below Hbd.out.q.rn Hbd.out.q.rw
                      clear hHeld
                      generalize ((((wd.setCell ⟨ab, 0, none⟩ (.int .i64 ver')).setCell ⟨ab, 1, none⟩ (.slice ca n' cc)).setCell ⟨bb, 0, none⟩ (.int .i64 ver')).setCell ⟨bb, 1, none⟩ (.slice da n' dc)) = We at *
                      clear c0 c1 d0 d1 p0 p1
                      obtain ⟨p0, p1, _, _⟩ := agg2 Hc.out.a
                      have hR := right_any (w := We) (B := w.heap.size) ver' _ l' 2048 Hc.out.ra (by omega) (fun e he => by have := HOK'.out e he; unfold Ok at this; omega)
                      rw [rightB_yes ⟨hv1', by omega⟩ (by omega) HAP'.out HOK'.out] at hR
                      go_wp2_with fail
                      refine hR.mono ?_
                      rintro r Wf ⟨rfl, hbf⟩
                      have Hf : Hid (PI w Wf ab bb ver' (.slice ca n' cc) (.slice da n' dc) l') := Hc.out.next hbf
                      clear hbf hR
                      go_wp2
                      go_roundw
                      case rel => exact ⟨k + 1, ver', ca, da, cc, dc, l', by omega, by omega, by go_num, hv1', by omega, by omega, HOK'.out, HAP'.out, by rw [hn']; exact Hf.out⟩
                      case measure => simp [intOf]; omega
                    · have hf0' : (f == 0) = false := by rw [beq_eq_false_iff_ne]; exact hf0
                      clear hf0
                      have hR := right_any (w := wr) (B := w.heap.size) ver _ l 2048 Hb.out.p.ra (by omega) (fun e he => by have := HOK.out e he; unfold Ok at this; omega)
                      rw [rightB_yes ⟨hv0, by omega⟩ (by omega) HAP.out HOK.out] at hR
                      go_wp2_with fail
                      refine hR.mono ?_
                      rintro r Wc ⟨rfl, hbc⟩
                      have Hc : Hid (PI w Wc ab bb ver (.slice aa j ac) (.slice ba j bc) l) := Hb.out.p.next hbc
                      clear hbc hR
                      go_wp2
                      go_roundw
                      case rel => exact ⟨k + 1, ver, aa, ba, ac, bc, l, by omega, by omega, by go_num, hv0, by omega, by omega, HOK.out, HAP.out, by rw [hln]; exact Hc.out⟩
                      case measure => simp [intOf]; omega
        · by_cases hm3 : m = 3
          · subst hm3
            as_aux_lemma =>
              go_wp2_with (
                at_builtin
                obtain ⟨v2, W2, hrun, hrow, hg, hnr⟩ := copyP_run (W := (wo.alloc (Obj.cells #[.int .i64 what, .int .i64 xa, .int .i64 xb] 31)).alloc (Obj.cells #[] 40)) (B := w.heap.size) (gb := wo.heap.size + 1) (B0 := wo.heap.size + 1) (.slice aa n ac) l (World.ownsRow.alloc (World.ownsRow.alloc HP.out.ra _) _) (by omega) (by have := heap_alloc_new (wo.alloc (Obj.cells #[.int .i64 what, .int .i64 xa, .int .i64 xb] 31)) (Obj.cells #[] 40); rw [World.size_alloc] at this; exact this) (Nat.le_refl _) 24
                refine Lib.wpList_append_run _ rfl _ _ _ _ rfl _ _ rfl rfl _ _ hrun ?_
                obtain ⟨wa, wc, hv2, _⟩ := row_slice hrow
                rw [hln] at hv2
                subst hv2
                have HB2 : Below wo.heap.size wo W2 := (((Below.refl _ _).alloc (Nat.le_refl _) _).alloc (by simp) _).grown hg (by simp; omega) (fun k e => by have := Option.some.inj e; omega)
                have HX2 : W2.heap[wo.heap.size]? = some (.cells #[.int .i64 what, .int .i64 xa, .int .i64 xb] 31 (0, 0)) := (hg.block _ (by simp; omega) (fun e => by have := Option.some.inj e; omega)).trans ((Below.heap_alloc _ _ _ (by simp)).trans (heap_alloc_new wo _))
                have HB3 : Hid (Below wo.heap.size wo ((W2.alloc (Obj.cells #[.int .i64 0, .slice none 0 0] 26)).alloc (Obj.cells #[.int .i64 0, .slice none 0 0] 29))) := (HB2.alloc HB2.size _).alloc (by have := HB2.size; simp; omega) _
                have HW3 : Hid (Row ((W2.alloc (Obj.cells #[.int .i64 0, .slice none 0 0] 26)).alloc (Obj.cells #[.int .i64 0, .slice none 0 0] 29)) (wo.heap.size + 1) (.slice wa n wc) l) := World.ownsRow.alloc (World.ownsRow.alloc hrow _) _
                have HX3 : Hid (((W2.alloc (Obj.cells #[.int .i64 0, .slice none 0 0] 26)).alloc (Obj.cells #[.int .i64 0, .slice none 0 0] 29)).heap[wo.heap.size]? = some (.cells #[.int .i64 what, .int .i64 xa, .int .i64 xb] 31 (0, 0))) := ((Below.heap_alloc _ _ _ (by have := lt_of_heap HX2; simp; omega)).trans (Below.heap_alloc _ _ _ (lt_of_heap HX2))).trans HX2
                have HN3 : Hid (((W2.alloc (Obj.cells #[.int .i64 0, .slice none 0 0] 26)).alloc (Obj.cells #[.int .i64 0, .slice none 0 0] 29)).heap[W2.heap.size]? = some (.cells #[.int .i64 0, .slice none 0 0] 26 (0, 0))) := (Below.heap_alloc _ _ _ (by simp)).trans (heap_alloc_new W2 _)
                have HM3 : Hid (((W2.alloc (Obj.cells #[.int .i64 0, .slice none 0 0] 26)).alloc (Obj.cells #[.int .i64 0, .slice none 0 0] 29)).heap[W2.heap.size + 1]? = some (.cells #[.int .i64 0, .slice none 0 0] 29 (0, 0))) := by
                  have := heap_alloc_new (W2.alloc (Obj.cells #[.int .i64 0, .slice none 0 0] 26)) (Obj.cells #[.int .i64 0, .slice none 0 0] 29)
                  rw [World.size_alloc] at this
                  exact this
                have HP3 : Hid (PI w ((W2.alloc (Obj.cells #[.int .i64 0, .slice none 0 0] 26)).alloc (Obj.cells #[.int .i64 0, .slice none 0 0] 29)) ab bb ver (.slice aa n ac) (.slice ba n bc) l) := HP.out.next HB3.out
                have hwl : wo.heap.size < W2.heap.size := lt_of_heap HX2
                have HWN : Hid (∀ i, (Value.slice wa n wc).ownBlock = some i → i < W2.heap.size) := row_lt hrow
                have H3 : Hid (R3 w wo ((W2.alloc (Obj.cells #[.int .i64 0, .slice none 0 0] 26)).alloc (Obj.cells #[.int .i64 0, .slice none 0 0] 29)) ab bb W2.heap.size what xa xb ver (.slice aa n ac) (.slice ba n bc) (.slice wa n wc) l) := ⟨HP3.out, HX3.out, HN3.out, HM3.out, HW3.out, HB3.out, hwl, fun i e => by have := HWN.out i e; omega⟩
                obtain ⟨g0, g1, g2⟩ := agg3 HX3.out
                obtain ⟨p0, p1, p2, p3⟩ := agg2 HP3.out.a
                obtain ⟨q0, q1, q2, q3⟩ := agg2 HP3.out.b
                clear hrun hrow hg hnr HB2 HX2 x0 x1 x2 x3 xa1 xa2)
              clear g0 g1 g2 p0 p1 p2 p3 q0 q1 q2 q3 HP3 HX3 HN3 HM3 HW3 HB3 HWN hwl
              generalize ((W2.alloc (Obj.cells #[.int .i64 0, .slice none 0 0] 26)).alloc (Obj.cells #[.int .i64 0, .slice none 0 0] 29)) = W at *
              generalize W2.heap.size = nb at *
              clear W2
              have hnbW : nb + 1 < W.heap.size := lt_of_heap H3.out.m
              have hwrW : wo.heap.size ≤ W.heap.size := H3.out.below.size
              have HC1 : Hid (∀ W, Row W w.heap.size (.slice aa n ac) l → Calls Tryd.prog 8 #[.agg #[.int .i64 ver, .slice aa n ac], .int .i64 xa, .int .i64 xb] W fun r W' => ∃ a c, r = .returned (.tuple #[.agg #[.int .i64 (movV l xa xb ver), .slice a (movM l xa xb).length c], .agg #[.int .i64 (movX l xa xb).pos, .int .i64 (movX l xa xb).len], errV (movE l xa xb)]) ∧ Row W' W.heap.size (.slice a (movM l xa xb).length c) (movM l xa xb) ∧ Below W.heap.size W W') := fun W hr =>
                (move_any (w := W) (B := w.heap.size) ver _ l xa xb hr (by omega) HOK.out ⟨hv0, by omega⟩ ⟨by omega, by omega⟩).mono (fun r W' h => h.norm)
              have HC2 : Hid (∀ W, RowR W w.heap.size (.slice ba n bc) l → Calls Tryd.prog 9 #[.agg #[.int .i64 ver, .slice ba n bc], .int .i64 xa, .int .i64 xb] W fun r W' => ∃ a c, r = .returned (.tuple #[.agg #[.int .i64 (movV l xa xb ver), .slice a (movM l xa xb).length c], .agg #[.int .i64 (movX l xa xb).pos, .int .i64 (movX l xa xb).len], .int .i64 (movE l xa xb)]) ∧ RowR W' W.heap.size (.slice a (movM l xa xb).length c) (movM l xa xb) ∧ Below W.heap.size W W') := fun W hr =>
                (moveR_any (w := W) (B := w.heap.size) ver _ l xa xb hr (by omega) HOK.out ⟨hv0, by omega⟩).mono (fun r W' h => h.norm)
              have HFI : Hid (Fine ver (movE l xa xb) (movV l xa xb ver) (movM l xa xb)) := mov_fine HOK.out HAP.out (by omega) hv0
              generalize movM l xa xb = l' at *
              generalize movX l xa xb = mx at *
              obtain ⟨mp, ml⟩ := mx
              dsimp only at HC1 HC2
              generalize movV l xa xb ver = ver' at *
              generalize movE l xa xb = f at *
              have hl36 : l'.length ≤ 36 := HFI.out.1
              obtain ⟨n', hn'⟩ : ∃ k, l'.length = k := ⟨_, rfl⟩
              rw [hn'] at hl36
              simp only [hn'] at HC1 HC2
              refine (HC1.out _ H3.out.p.ra).mono ?_
              rintro r W4 ⟨ca, cc, rfl, hr1, hb4⟩
              have hWl := hb4.size
              have HR1 : Hid (Row W4 W.heap.size (.slice ca n' cc) l') := hr1
              have H4 : Hid (R3 w wo ((W4.alloc (Obj.cells #[.int .i64 ver', .slice ca n' cc] 26)).alloc (Obj.cells #[.int .i64 mp, .int .i64 ml] 40)) ab bb nb what xa xb ver (.slice aa n ac) (.slice ba n bc) (.slice wa n wc) l) := ((H3.out.next hb4).alloc _).alloc _
              have hc4 : ((W4.alloc (Obj.cells #[.int .i64 ver', .slice ca n' cc] 26)).alloc (Obj.cells #[.int .i64 mp, .int .i64 ml] 40)).heap[W4.heap.size]? = some (.cells #[.int .i64 ver', .slice ca n' cc] 26 (0, 0)) := (Below.heap_alloc _ _ _ (by simp)).trans (heap_alloc_new W4 _)
              have hx4 : ((W4.alloc (Obj.cells #[.int .i64 ver', .slice ca n' cc] 26)).alloc (Obj.cells #[.int .i64 mp, .int .i64 ml] 40)).heap[W4.heap.size + 1]? = some (.cells #[.int .i64 mp, .int .i64 ml] 40 (0, 0)) := by
                have := heap_alloc_new (W4.alloc (Obj.cells #[.int .i64 ver', .slice ca n' cc] 26)) (Obj.cells #[.int .i64 mp, .int .i64 ml] 40)
                rw [World.size_alloc] at this
                exact this
              have HC4 : Hid (_ = _) := hc4
              have HX4 : Hid (_ = _) := hx4
              clear hr1 hb4 HC1 hc4 hx4
              obtain ⟨g0, g1, g2⟩ := agg3 H4.out.x
              obtain ⟨q0, q1, q2, q3⟩ := agg2 H4.out.p.b
              go_wp2_with fail
              refine (HC2.out _ H4.out.p.rb).mono ?_
              rintro r W5 ⟨da, dc, rfl, hr3, hb5⟩
              have hc5 := (hb5.block _ (lt_of_heap HC4.out)).trans HC4.out
              have hx5 := (hb5.block _ (lt_of_heap HX4.out)).trans HX4.out
              have H6 : Hid (R3 w wo ((W5.alloc (Obj.cells #[.int .i64 ver', .slice da n' dc] 29)).alloc (Obj.cells #[.int .i64 mp, .int .i64 ml] 39)) ab bb nb what xa xb ver (.slice aa n ac) (.slice ba n bc) (.slice wa n wc) l) := ((H4.out.next hb5).alloc _).alloc _
              have hc6 : ((W5.alloc (Obj.cells #[.int .i64 ver', .slice da n' dc] 29)).alloc (Obj.cells #[.int .i64 mp, .int .i64 ml] 39)).heap[W4.heap.size]? = some (.cells #[.int .i64 ver', .slice ca n' cc] 26 (0, 0)) := ((Below.heap_alloc _ _ _ (by have := lt_of_heap hc5; simp; omega)).trans (Below.heap_alloc _ _ _ (lt_of_heap hc5))).trans hc5
              have hx6 : ((W5.alloc (Obj.cells #[.int .i64 ver', .slice da n' dc] 29)).alloc (Obj.cells #[.int .i64 mp, .int .i64 ml] 39)).heap[W4.heap.size + 1]? = some (.cells #[.int .i64 mp, .int .i64 ml] 40 (0, 0)) := ((Below.heap_alloc _ _ _ (by have := lt_of_heap hx5; simp; omega)).trans (Below.heap_alloc _ _ _ (lt_of_heap hx5))).trans hx5
              have hd6 : ((W5.alloc (Obj.cells #[.int .i64 ver', .slice da n' dc] 29)).alloc (Obj.cells #[.int .i64 mp, .int .i64 ml] 39)).heap[W5.heap.size]? = some (.cells #[.int .i64 ver', .slice da n' dc] 29 (0, 0)) := (Below.heap_alloc _ _ _ (by simp)).trans (heap_alloc_new W5 _)
              have hy6 : ((W5.alloc (Obj.cells #[.int .i64 ver', .slice da n' dc] 29)).alloc (Obj.cells #[.int .i64 mp, .int .i64 ml] 39)).heap[W5.heap.size + 1]? = some (.cells #[.int .i64 mp, .int .i64 ml] 39 (0, 0)) := by
                have := heap_alloc_new (W5.alloc (Obj.cells #[.int .i64 ver', .slice da n' dc] 29)) (Obj.cells #[.int .i64 mp, .int .i64 ml] 39)
                rw [World.size_alloc] at this
                exact this
              have HR61 : Hid (Row ((W5.alloc (Obj.cells #[.int .i64 ver', .slice da n' dc] 29)).alloc (Obj.cells #[.int .i64 mp, .int .i64 ml] 39)) W.heap.size (.slice ca n' cc) l') := World.ownsRow.alloc (World.ownsRow.alloc (row_below (World.ownsRow.alloc (World.ownsRow.alloc HR1.out _) _) hb5 (Nat.le_refl _)) _) _
              have HR63 : Hid (RowR ((W5.alloc (Obj.cells #[.int .i64 ver', .slice da n' dc] 29)).alloc (Obj.cells #[.int .i64 mp, .int .i64 ml] 39)) W.heap.size (.slice da n' dc) l') := row_base (World.ownsRow.alloc (World.ownsRow.alloc hr3 _) _) (by simp; omega)
              have hW5 : W4.heap.size < W5.heap.size := lt_of_heap hc5
              clear hr3 hb5 hc5 hx5 HC2 HR1 H4 HC4 HX4 g0 g1 g2 q0 q1 q2 q3
              obtain ⟨c0, c1, _, _⟩ := agg2 hc6
              obtain ⟨d0, d1, _, _⟩ := agg2 hd6
              obtain ⟨s0, s1, _, _⟩ := agg2 hx6
              obtain ⟨s2, s3, _, _⟩ := agg2 hy6
              clear hc6 hx6 hd6 hy6
              go_wp2_with fail
              clear s0 s1 s2 s3
              have hW4 : W.heap.size ≤ W4.heap.size := hWl
              generalize ((W5.alloc (Obj.cells #[.int .i64 ver', .slice da n' dc] 29)).alloc (Obj.cells #[.int .i64 mp, .int .i64 ml] 39)) = W6 at *
              generalize W5.heap.size = db at *
              generalize W4.heap.size = cb at *
              have H7 : Hid (R3 w wo W6 ab bb nb what xa xb ver (.slice aa n ac) (.slice ba n bc) (.slice wa n wc) l) := H6.out
              clear H6
              have hnl := lt_of_heap H7.out.m
              have hng := H7.out.nge
              have H7d : Hid (R3 w wo W6.drew ab bb nb what xa xb ver (.slice aa n ac) (.slice ba n bc) (.slice wa n wc) l) := H7.out.drew
              have HRd1 : Hid (Row W6.drew W.heap.size (.slice ca n' cc) l') := World.ownsRow.drew HR61.out
              have HRd2 : Hid (RowR W6.drew W.heap.size (.slice da n' dc) l') := World.ownsRow.drew HR63.out
              refine wp_region_held_drew (S := fun W => W.cell? ⟨cb, 0, none⟩ = some (.int .i64 ver') ∧ W.cell? ⟨cb, 1, none⟩ = some (.slice ca n' cc) ∧ W.cell? ⟨db, 0, none⟩ = some (.int .i64 ver') ∧ W.cell? ⟨db, 1, none⟩ = some (.slice da n' dc)) (by kernel_rfl) (by exact ⟨c0, c1, d0, d1⟩) (fun hHeld => ?_)
              change wpAnyH _ _ _ _ _ 8 (Array.replicate 8 false) _ _
              refine wpAnyH_take (i := 0) (oi := _) (v := _) (by simp only [List.getElem?_toArray, List.getElem?_cons_zero]; rfl) (by kernel_rfl) (by kernel_rfl) (by kernel_rfl) (by exact fun _ _ _ h => h) (Or.inl ⟨by rfl, by intro w' hSw; (try dsimp only at hSw); first | (go_simp; done) | (go_simp; with_reducible rfl)⟩) hHeld ?_
              simp only [Act.put, List.setIfInBounds_toArray, List.set_cons_zero, List.set_cons_succ]
              refine wpAnyH_take (i := 1) (oi := _) (v := _) (by simp only [List.getElem?_toArray, List.getElem?_cons_succ, List.getElem?_cons_zero]; rfl) (by kernel_rfl) (by kernel_rfl) (by kernel_rfl) (by exact fun _ _ _ h => h) (Or.inl ⟨by rfl, by intro w' hSw; (try dsimp only at hSw); first | (go_simp; done) | (go_simp; with_reducible rfl)⟩) hHeld ?_
              simp only [Act.put, List.setIfInBounds_toArray, List.set_cons_zero, List.set_cons_succ]
              refine wpAnyH_take (i := 2) (oi := _) (v := _) (by simp only [List.getElem?_toArray, List.getElem?_cons_succ, List.getElem?_cons_zero]; rfl) (by kernel_rfl) (by kernel_rfl) (by kernel_rfl) (by exact fun _ _ _ h => h) (Or.inl ⟨by rfl, by intro w' hSw; (try dsimp only at hSw); first | (go_simp; done) | (go_simp; with_reducible rfl)⟩) hHeld ?_
              simp only [Act.put, List.setIfInBounds_toArray, List.set_cons_zero, List.set_cons_succ]
              refine wpAnyH_take (i := 3) (oi := _) (v := _) (by simp only [List.getElem?_toArray, List.getElem?_cons_succ, List.getElem?_cons_zero]; rfl) (by kernel_rfl) (by kernel_rfl) (by kernel_rfl) (by exact fun _ _ _ h => h) (Or.inl ⟨by rfl, by intro w' hSw; (try dsimp only at hSw); first | (go_simp; done) | (go_simp; with_reducible rfl)⟩) hHeld ?_
              simp only [Act.put, List.setIfInBounds_toArray, List.set_cons_zero, List.set_cons_succ]
              refine wpAnyH_ready (rs := [4]) (by kernel_rfl) (by simp) ?_
              refine AllReadyH.cons rfl (fun K hK => ?_) AllReadyH.nil
              generalize W6.drew = wd at *
              obtain ⟨y0, y1, z0, z1⟩ := agg2 H7d.out.n
              go_simp
              refine hK.out _ _ ⟨?_, ?_, ?_, ?_⟩ (fun hHeld => ?_)
              · rw [World.cell?_setCell_other _ _ _ _ (by intro h; simp only [Addr.mk.injEq] at h; omega), World.cell?_setCell_other _ _ _ _ (by intro h; simp only [Addr.mk.injEq] at h; omega)]; exact hHeld.1
              · rw [World.cell?_setCell_other _ _ _ _ (by intro h; simp only [Addr.mk.injEq] at h; omega), World.cell?_setCell_other _ _ _ _ (by intro h; simp only [Addr.mk.injEq] at h; omega)]; exact hHeld.2.1
              · rw [World.cell?_setCell_other _ _ _ _ (by intro h; simp only [Addr.mk.injEq] at h; omega), World.cell?_setCell_other _ _ _ _ (by intro h; simp only [Addr.mk.injEq] at h; omega)]; exact hHeld.2.2.1
              · rw [World.cell?_setCell_other _ _ _ _ (by intro h; simp only [Addr.mk.injEq] at h; omega), World.cell?_setCell_other _ _ _ _ (by intro h; simp only [Addr.mk.injEq] at h; omega)]; exact hHeld.2.2.2
              clear hK K y0 y1 z0 z1
              refine wpAnyH_ready (rs := [5]) (by kernel_rfl) (by simp) ?_
              refine AllReadyH.cons rfl (fun K hK => ?_) AllReadyH.nil
              have hm7 : ((wd.setCell ⟨nb, 0, none⟩ (.int .i64 ver')).setCell ⟨nb, 1, none⟩ (.slice ca n' cc)).heap[nb + 1]? = some (.cells #[.int .i64 0, .slice none 0 0] 29 (0, 0)) := (set2_other (by omega) _ _).trans H7d.out.m
              obtain ⟨y0, y1, z0, z1⟩ := agg2 hm7
              go_simp
              refine hK.out _ _ ⟨?_, ?_, ?_, ?_⟩ (fun hHeld => ?_)
              · rw [World.cell?_setCell_other _ _ _ _ (by intro h; simp only [Addr.mk.injEq] at h; omega), World.cell?_setCell_other _ _ _ _ (by intro h; simp only [Addr.mk.injEq] at h; omega)]; exact hHeld.1
              · rw [World.cell?_setCell_other _ _ _ _ (by intro h; simp only [Addr.mk.injEq] at h; omega), World.cell?_setCell_other _ _ _ _ (by intro h; simp only [Addr.mk.injEq] at h; omega)]; exact hHeld.2.1
              · rw [World.cell?_setCell_other _ _ _ _ (by intro h; simp only [Addr.mk.injEq] at h; omega), World.cell?_setCell_other _ _ _ _ (by intro h; simp only [Addr.mk.injEq] at h; omega)]; exact hHeld.2.2.1
              · rw [World.cell?_setCell_other _ _ _ _ (by intro h; simp only [Addr.mk.injEq] at h; omega), World.cell?_setCell_other _ _ _ _ (by intro h; simp only [Addr.mk.injEq] at h; omega)]; exact hHeld.2.2.2
              clear hK K y0 y1 z0 z1 hm7
              refine wpAnyH_take (i := 6) (oi := _) (v := _) (by simp only [List.getElem?_toArray, List.getElem?_cons_succ, List.getElem?_cons_zero]; rfl) (by kernel_rfl) (by kernel_rfl) (by kernel_rfl) (by exact fun _ _ _ h => h) (Or.inl ⟨by rfl, by intro w' hSw; (try dsimp only at hSw); first | (go_simp; done) | (go_simp; with_reducible rfl)⟩) hHeld ?_
              simp only [Act.put, List.setIfInBounds_toArray, List.set_cons_zero, List.set_cons_succ]
              refine wpAnyH_take (i := 7) (oi := _) (v := _) (by simp only [List.getElem?_toArray, List.getElem?_cons_succ, List.getElem?_cons_zero]; rfl) (by kernel_rfl) (by kernel_rfl) (by kernel_rfl) (by exact fun _ _ _ h => h) (Or.inl ⟨by rfl, by intro w' hSw; (try dsimp only at hSw); first | (go_simp; done) | (go_simp; with_reducible rfl)⟩) hHeld ?_
              simp only [Act.put, List.setIfInBounds_toArray, List.set_cons_zero, List.set_cons_succ]
              refine wpAnyH_done (by kernel_rfl) ?_ _
              have H8 : Hid (R5 w wo ((((wd.setCell ⟨nb, 0, none⟩ (.int .i64 ver')).setCell ⟨nb, 1, none⟩ (.slice ca n' cc)).setCell ⟨nb + 1, 0, none⟩ (.int .i64 ver')).setCell ⟨nb + 1, 1, none⟩ (.slice da n' dc)) ab bb nb ver ver' (.slice aa n ac) (.slice ba n bc) (.slice wa n wc) (.slice ca n' cc) (.slice da n' dc) l l') := R3.put (W0 := W) H7d.out hab HVL.out hnbW hwrW HRd1.out HRd2.out
              clear hHeld
              generalize ((((wd.setCell ⟨nb, 0, none⟩ (.int .i64 ver')).setCell ⟨nb, 1, none⟩ (.slice ca n' cc)).setCell ⟨nb + 1, 0, none⟩ (.int .i64 ver')).setCell ⟨nb + 1, 1, none⟩ (.slice da n' dc)) = W8 at *
              clear H7 H7d HRd1 HRd2 c0 c1 d0 d1
              go_wp2_with fail
              have hE8 := HE.out.below H8.out.p.below HE.out.lt
              refine (code_any f _ hE8).mono ?_
              rintro r W9 ⟨rfl, hb9⟩
              have H9 : Hid (R5 w wo W9 ab bb nb ver ver' (.slice aa n ac) (.slice ba n bc) (.slice wa n wc) (.slice ca n' cc) (.slice da n' dc) l l') := H8.out.next hb9
              clear hb9 H8 hE8
              obtain ⟨c0, c1, _, _⟩ := agg2 H9.out.q.n
              obtain ⟨d0, d1, _, _⟩ := agg2 H9.out.q.w
              go_wp2_with fail
              refine (same_any (w := W9) (B := wo.heap.size) (C := wo.heap.size) ver' _ _ l' H9.out.q.rn H9.out.q.rw (by omega)).mono ?_
              rintro r Wa ⟨rfl, hba⟩
              have Ha : Hid (R5 w wo Wa ab bb nb ver ver' (.slice aa n ac) (.slice ba n bc) (.slice wa n wc) (.slice ca n' cc) (.slice da n' dc) l l') := H9.out.next hba
              clear hba H9 c0 c1 d0 d1
              obtain ⟨p0, p1, _, _⟩ := agg2 Ha.out.p.a
              go_wp2_with fail
              clear p0 p1
              go_loopw [25] (fun i wq => ∃ j : Nat, j ≤ n ∧ i = .int .i64 j ∧ Below Wa.heap.size Wa wq) (fun i _ => n - (intOf i).toNat)
              case atStart => exact ⟨0, Nat.zero_le _, rfl, Below.refl _ _⟩
              case round =>
                obtain ⟨j, hj, rfl, hBq⟩ := hrel
                have Hb : Hid (R5 w wo wr ab bb nb ver ver' (.slice aa n ac) (.slice ba n bc) (.slice wa n wc) (.slice ca n' cc) (.slice da n' dc) l l') := Ha.out.next hBq
                have HBQ : Hid (Below Wa.heap.size Wa wr) := hBq
                clear hBq
                obtain ⟨p0, p1, _, _⟩ := agg2 Hb.out.p.a
                by_cases hjl : j < n
                · obtain ⟨ya, cap3, he⟩ := row_some Hb.out.p.ra (by omega)
                  rw [hln] at he
                  cases he
                  obtain ⟨yb, cap4, he⟩ := row_some Hb.out.was (by omega)
                  rw [hln] at he
                  cases he
                  obtain ⟨e0, e1⟩ := Hb.out.p.ra.ext j (by omega)
                  obtain ⟨f0, f1⟩ := Hb.out.was.ext j (by omega)
                  generalize l[j] = y at *
                  obtain ⟨yp, yl⟩ := y
                  dsimp only at e0 e1 f0 f1
                  go_wp2_with fail
                  refine wp_region_held_drew (S := fun W => W.cell? ⟨ab, 1, none⟩ = some (.slice (some ⟨ya, 0, none⟩) n ac) ∧ W.cell? ⟨ya, j * 2, none⟩ = some (.int .i64 yp) ∧ W.cell? ⟨ya, j * 2 + 1, none⟩ = some (.int .i64 yl) ∧ W.cell? ⟨yb, j * 2, none⟩ = some (.int .i64 yp) ∧ W.cell? ⟨yb, j * 2 + 1, none⟩ = some (.int .i64 yl)) (by kernel_rfl) (by exact ⟨p1, e0, e1, f0, f1⟩) (fun hHeld => ?_)
                  change wpAnyH _ _ _ _ _ 10 (Array.replicate 10 false) _ _
                  refine wpAnyH_take (i := 0) (oi := _) (v := _) (by simp only [List.getElem?_toArray, List.getElem?_cons_zero]; rfl) (by kernel_rfl) (by kernel_rfl) (by kernel_rfl) (by exact fun _ _ _ h => h) (Or.inl ⟨by rfl, by intro w' hSw; (try dsimp only at hSw); first | (go_simp; done) | (go_simp; with_reducible rfl)⟩) hHeld ?_
                  simp only [Act.put, List.setIfInBounds_toArray, List.set_cons_zero, List.set_cons_succ]
                  refine wpAnyH_take (i := 1) (oi := _) (v := _) (by simp only [List.getElem?_toArray, List.getElem?_cons_succ, List.getElem?_cons_zero]; rfl) (by kernel_rfl) (by kernel_rfl) (by kernel_rfl) (by exact fun _ _ _ h => h) (Or.inl ⟨by rfl, by intro w' hSw; (try dsimp only at hSw); first | (go_simp; done) | (go_simp; with_reducible rfl)⟩) hHeld ?_
                  simp only [Act.put, List.setIfInBounds_toArray, List.set_cons_zero, List.set_cons_succ]
                  refine wpAnyH_take (i := 2) (oi := _) (v := _) (by simp only [List.getElem?_toArray, List.getElem?_cons_succ, List.getElem?_cons_zero]; rfl) (by kernel_rfl) (by kernel_rfl) (by kernel_rfl) (by exact fun _ _ _ h => h) (Or.inl ⟨by rfl, by intro w' hSw; (try dsimp only at hSw); first | (go_simp; done) | (go_simp; with_reducible rfl)⟩) hHeld ?_
                  simp only [Act.put, List.setIfInBounds_toArray, List.set_cons_zero, List.set_cons_succ]
                  refine wpAnyH_take (i := 3) (oi := _) (v := _) (by simp only [List.getElem?_toArray, List.getElem?_cons_succ, List.getElem?_cons_zero]; rfl) (by kernel_rfl) (by kernel_rfl) (by kernel_rfl) (by exact fun _ _ _ h => h) (Or.inl ⟨by rfl, by intro w' hSw; (try dsimp only at hSw); first | (go_simp; done) | (go_simp; with_reducible rfl)⟩) hHeld ?_
                  simp only [Act.put, List.setIfInBounds_toArray, List.set_cons_zero, List.set_cons_succ]
                  refine wpAnyH_take (i := 4) (oi := _) (v := _) (by simp only [List.getElem?_toArray, List.getElem?_cons_succ, List.getElem?_cons_zero]; rfl) (by kernel_rfl) (by kernel_rfl) (by kernel_rfl) (by exact fun _ _ _ h => h) (Or.inl ⟨by rfl, by intro w' hSw; (try dsimp only at hSw); first | (go_simp; done) | (go_simp; with_reducible rfl)⟩) hHeld ?_
                  simp only [Act.put, List.setIfInBounds_toArray, List.set_cons_zero, List.set_cons_succ]
                  refine wpAnyH_take (i := 5) (oi := _) (v := _) (by simp only [List.getElem?_toArray, List.getElem?_cons_succ, List.getElem?_cons_zero]; rfl) (by kernel_rfl) (by kernel_rfl) (by kernel_rfl) (by exact fun _ _ _ h => h) (Or.inl ⟨by rfl, by intro w' hSw; (try dsimp only at hSw); first | (go_simp; done) | (go_simp; with_reducible rfl)⟩) hHeld ?_
                  simp only [Act.put, List.setIfInBounds_toArray, List.set_cons_zero, List.set_cons_succ]
                  refine wpAnyH_take (i := 6) (oi := _) (v := _) (by simp only [List.getElem?_toArray, List.getElem?_cons_succ, List.getElem?_cons_zero]; rfl) (by kernel_rfl) (by kernel_rfl) (by kernel_rfl) (by exact fun _ _ _ h => h) (Or.inl ⟨by rfl, by intro w' hSw; (try dsimp only at hSw); first | (go_simp; done) | (go_simp; with_reducible rfl)⟩) hHeld ?_
                  simp only [Act.put, List.setIfInBounds_toArray, List.set_cons_zero, List.set_cons_succ]
                  refine wpAnyH_take (i := 7) (oi := _) (v := _) (by simp only [List.getElem?_toArray, List.getElem?_cons_succ, List.getElem?_cons_zero]; rfl) (by kernel_rfl) (by kernel_rfl) (by kernel_rfl) (by exact fun _ _ _ h => h) (Or.inl ⟨by rfl, by intro w' hSw; (try dsimp only at hSw); first | (go_simp; done) | (go_simp; with_reducible rfl)⟩) hHeld ?_
                  simp only [Act.put, List.setIfInBounds_toArray, List.set_cons_zero, List.set_cons_succ]
                  refine wpAnyH_take (i := 8) (oi := _) (v := _) (by simp only [List.getElem?_toArray, List.getElem?_cons_succ, List.getElem?_cons_zero]; rfl) (by kernel_rfl) (by kernel_rfl) (by kernel_rfl) (by exact fun _ _ _ h => h) (Or.inl ⟨by rfl, by intro w' hSw; (try dsimp only at hSw); first | (go_simp; done) | (go_simp; with_reducible rfl)⟩) hHeld ?_
                  simp only [Act.put, List.setIfInBounds_toArray, List.set_cons_zero, List.set_cons_succ]
                  refine wpAnyH_take (i := 9) (oi := _) (v := _) (by simp only [List.getElem?_toArray, List.getElem?_cons_succ, List.getElem?_cons_zero]; rfl) (by kernel_rfl) (by kernel_rfl) (by kernel_rfl) (by exact fun _ _ _ h => h) (Or.inl ⟨by rfl, by intro w' hSw; (try dsimp only at hSw); first | (go_simp; done) | (go_simp; with_reducible rfl)⟩) hHeld ?_
                  simp only [Act.put, List.setIfInBounds_toArray, List.set_cons_zero, List.set_cons_succ]
                  refine wpAnyH_done (by kernel_rfl) ?_ _
                  go_wp2
                  go_roundw
                  case rel => exact ⟨j + 1, by omega, by go_num, HBQ.out.drew⟩
                  case measure => simp [intOf]; omega
                · obtain rfl : j = n := by omega
                  by_cases hf0 : f = 0
                  · have hf0' : (f == 0) = true := by rw [beq_iff_eq]; exact hf0
                    obtain ⟨hok', hap', hv1', hv2'⟩ := HFI.out.2 hf0
                    have HOK' : Hid (OkL l') := hok'
                    have HAP' : Hid (Apart l') := hap'
                    clear hok' hap' hf0
                    obtain ⟨c0, c1, _, _⟩ := agg2 Hb.out.q.n
                    obtain ⟨d0, d1, _, _⟩ := agg2 Hb.out.q.w
                    have Hbd : Hid (R5 w wo wr.drew ab bb nb ver ver' (.slice aa j ac) (.slice ba j bc) (.slice wa j wc) (.slice ca n' cc) (.slice da n' dc) l l') := Hb.out.next (Below.refl _ _).drew
                    have hne := HP.out.abne
                    go_wp2_with fail
                    refine wp_region_held_drew (S := fun W => W.cell? ⟨nb, 0, none⟩ = some (.int .i64 ver') ∧ W.cell? ⟨nb, 1, none⟩ = some (.slice ca n' cc) ∧ W.cell? ⟨nb + 1, 0, none⟩ = some (.int .i64 ver') ∧ W.cell? ⟨nb + 1, 1, none⟩ = some (.slice da n' dc)) (by kernel_rfl) (by exact ⟨c0, c1, d0, d1⟩) (fun hHeld => ?_)
                    change wpAnyH _ _ _ _ _ 4 (Array.replicate 4 false) _ _
                    refine wpAnyH_take (i := 0) (oi := _) (v := _) (by simp only [List.getElem?_toArray, List.getElem?_cons_zero]; rfl) (by kernel_rfl) (by kernel_rfl) (by kernel_rfl) (by exact fun _ _ _ h => h) (Or.inl ⟨by rfl, by intro w' hSw; (try dsimp only at hSw); first | (go_simp; done) | (go_simp; with_reducible rfl)⟩) hHeld ?_
                    simp only [Act.put, List.setIfInBounds_toArray, List.set_cons_zero, List.set_cons_succ]
                    refine wpAnyH_take (i := 1) (oi := _) (v := _) (by simp only [List.getElem?_toArray, List.getElem?_cons_succ, List.getElem?_cons_zero]; rfl) (by kernel_rfl) (by kernel_rfl) (by kernel_rfl) (by exact fun _ _ _ h => h) (Or.inl ⟨by rfl, by intro w' hSw; (try dsimp only at hSw); first | (go_simp; done) | (go_simp; with_reducible rfl)⟩) hHeld ?_
                    simp only [Act.put, List.setIfInBounds_toArray, List.set_cons_zero, List.set_cons_succ]
                    refine wpAnyH_ready (rs := [2]) (by kernel_rfl) (by simp) ?_
                    refine AllReadyH.cons rfl (fun K hK => ?_) AllReadyH.nil
                    generalize wr.drew = wd at *
                    obtain ⟨y0, y1, z0, z1⟩ := agg2 Hbd.out.p.a
                    go_simp
                    refine hK.out _ _ ⟨?_, ?_, ?_, ?_⟩ (fun hHeld => ?_)
                    · rw [World.cell?_setCell_other _ _ _ _ (by intro h; simp only [Addr.mk.injEq] at h; omega), World.cell?_setCell_other _ _ _ _ (by intro h; simp only [Addr.mk.injEq] at h; omega)]; exact hHeld.1
                    · rw [World.cell?_setCell_other _ _ _ _ (by intro h; simp only [Addr.mk.injEq] at h; omega), World.cell?_setCell_other _ _ _ _ (by intro h; simp only [Addr.mk.injEq] at h; omega)]; exact hHeld.2.1
                    · rw [World.cell?_setCell_other _ _ _ _ (by intro h; simp only [Addr.mk.injEq] at h; omega), World.cell?_setCell_other _ _ _ _ (by intro h; simp only [Addr.mk.injEq] at h; omega)]; exact hHeld.2.2.1
                    · rw [World.cell?_setCell_other _ _ _ _ (by intro h; simp only [Addr.mk.injEq] at h; omega), World.cell?_setCell_other _ _ _ _ (by intro h; simp only [Addr.mk.injEq] at h; omega)]; exact hHeld.2.2.2
                    clear hK K y0 y1 z0 z1
                    refine wpAnyH_ready (rs := [3]) (by kernel_rfl) (by simp) ?_
                    refine AllReadyH.cons rfl (fun K hK => ?_) AllReadyH.nil
                    have hm7 : ((wd.setCell ⟨ab, 0, none⟩ (.int .i64 ver')).setCell ⟨ab, 1, none⟩ (.slice ca n' cc)).heap[bb]? = some (.cells #[.int .i64 ver, .slice ba j bc] 29 (0, 0)) := (set2_other (fun e => hne e.symm) _ _).trans Hbd.out.p.b
                    obtain ⟨y0, y1, z0, z1⟩ := agg2 hm7
                    go_simp
                    refine hK.out _ _ ⟨?_, ?_, ?_, ?_⟩ (fun hHeld => ?_)
                    · rw [World.cell?_setCell_other _ _ _ _ (by intro h; simp only [Addr.mk.injEq] at h; omega), World.cell?_setCell_other _ _ _ _ (by intro h; simp only [Addr.mk.injEq] at h; omega)]; exact hHeld.1
                    · rw [World.cell?_setCell_other _ _ _ _ (by intro h; simp only [Addr.mk.injEq] at h; omega), World.cell?_setCell_other _ _ _ _ (by intro h; simp only [Addr.mk.injEq] at h; omega)]; exact hHeld.2.1
                    · rw [World.cell?_setCell_other _ _ _ _ (by intro h; simp only [Addr.mk.injEq] at h; omega), World.cell?_setCell_other _ _ _ _ (by intro h; simp only [Addr.mk.injEq] at h; omega)]; exact hHeld.2.2.1
                    · rw [World.cell?_setCell_other _ _ _ _ (by intro h; simp only [Addr.mk.injEq] at h; omega), World.cell?_setCell_other _ _ _ _ (by intro h; simp only [Addr.mk.injEq] at h; omega)]; exact hHeld.2.2.2
                    clear hK K y0 y1 z0 z1 hm7
                    refine wpAnyH_done (by kernel_rfl) ?_ _
                    have Hc : Hid (PI w ((((wd.setCell ⟨ab, 0, none⟩ (.int .i64 ver')).setCell ⟨ab, 1, none⟩ (.slice ca n' cc)).setCell ⟨bb, 0, none⟩ (.int .i64 ver')).setCell ⟨bb, 1, none⟩ (.slice da n' dc)) ab bb ver' (.slice ca n' cc) (.slice da n' dc) l') := PI.put HP.out Hbd.out.q.below Hbd.out.q.rn Hbd.out.q.rw
                    clear hHeld
                    generalize ((((wd.setCell ⟨ab, 0, none⟩ (.int .i64 ver')).setCell ⟨ab, 1, none⟩ (.slice ca n' cc)).setCell ⟨bb, 0, none⟩ (.int .i64 ver')).setCell ⟨bb, 1, none⟩ (.slice da n' dc)) = We at *
                    clear c0 c1 d0 d1 p0 p1
                    obtain ⟨p0, p1, _, _⟩ := agg2 Hc.out.a
                    have hR := right_any (w := We) (B := w.heap.size) ver' _ l' 2048 Hc.out.ra (by omega) (fun e he => by have := HOK'.out e he; unfold Ok at this; omega)
                    rw [rightB_yes ⟨hv1', by omega⟩ (by omega) HAP'.out HOK'.out] at hR
                    go_wp2_with fail
                    refine hR.mono ?_
                    rintro r Wf ⟨rfl, hbf⟩
                    have Hf : Hid (PI w Wf ab bb ver' (.slice ca n' cc) (.slice da n' dc) l') := Hc.out.next hbf
                    clear hbf hR
                    go_wp2
                    go_roundw
                    case rel => exact ⟨k + 1, ver', ca, da, cc, dc, l', by omega, by omega, by go_num, hv1', by omega, by omega, HOK'.out, HAP'.out, by rw [hn']; exact Hf.out⟩
                    case measure => simp [intOf]; omega
                  · have hf0' : (f == 0) = false := by rw [beq_eq_false_iff_ne]; exact hf0
                    clear hf0
                    have hR := right_any (w := wr) (B := w.heap.size) ver _ l 2048 Hb.out.p.ra (by omega) (fun e he => by have := HOK.out e he; unfold Ok at this; omega)
                    rw [rightB_yes ⟨hv0, by omega⟩ (by omega) HAP.out HOK.out] at hR
                    go_wp2_with fail
                    refine hR.mono ?_
                    rintro r Wc ⟨rfl, hbc⟩
                    have Hc : Hid (PI w Wc ab bb ver (.slice aa j ac) (.slice ba j bc) l) := Hb.out.p.next hbc
                    clear hbc hR
                    go_wp2
                    go_roundw
                    case rel => exact ⟨k + 1, ver, aa, ba, ac, bc, l, by omega, by omega, by go_num, hv0, by omega, by omega, HOK.out, HAP.out, by rw [hln]; exact Hc.out⟩
                    case measure => simp [intOf]; omega
          · have hm2' : (m == 2) = false := by rw [beq_eq_false_iff_ne]; exact hm2
            have hm3' : (m == 3) = false := by rw [beq_eq_false_iff_ne]; exact hm3
            as_aux_lemma =>
              go_wp2_with (
                at_builtin
                obtain ⟨v2, W2, hrun, hrow, hg, hnr⟩ := copyP_run (W := (wo.alloc (Obj.cells #[.int .i64 what, .int .i64 xa, .int .i64 xb] 31)).alloc (Obj.cells #[] 40)) (B := w.heap.size) (gb := wo.heap.size + 1) (B0 := wo.heap.size + 1) (.slice aa n ac) l (World.ownsRow.alloc (World.ownsRow.alloc HP.out.ra _) _) (by omega) (by have := heap_alloc_new (wo.alloc (Obj.cells #[.int .i64 what, .int .i64 xa, .int .i64 xb] 31)) (Obj.cells #[] 40); rw [World.size_alloc] at this; exact this) (Nat.le_refl _) 24
                refine Lib.wpList_append_run _ rfl _ _ _ _ rfl _ _ rfl rfl _ _ hrun ?_
                obtain ⟨wa, wc, hv2, _⟩ := row_slice hrow
                rw [hln] at hv2
                subst hv2
                have HB2 : Below wo.heap.size wo W2 := (((Below.refl _ _).alloc (Nat.le_refl _) _).alloc (by simp) _).grown hg (by simp; omega) (fun k e => by have := Option.some.inj e; omega)
                have HX2 : W2.heap[wo.heap.size]? = some (.cells #[.int .i64 what, .int .i64 xa, .int .i64 xb] 31 (0, 0)) := (hg.block _ (by simp; omega) (fun e => by have := Option.some.inj e; omega)).trans ((Below.heap_alloc _ _ _ (by simp)).trans (heap_alloc_new wo _))
                have HB3 : Hid (Below wo.heap.size wo ((W2.alloc (Obj.cells #[.int .i64 0, .slice none 0 0] 26)).alloc (Obj.cells #[.int .i64 0, .slice none 0 0] 29))) := (HB2.alloc HB2.size _).alloc (by have := HB2.size; simp; omega) _
                have HW3 : Hid (Row ((W2.alloc (Obj.cells #[.int .i64 0, .slice none 0 0] 26)).alloc (Obj.cells #[.int .i64 0, .slice none 0 0] 29)) (wo.heap.size + 1) (.slice wa n wc) l) := World.ownsRow.alloc (World.ownsRow.alloc hrow _) _
                have HX3 : Hid (((W2.alloc (Obj.cells #[.int .i64 0, .slice none 0 0] 26)).alloc (Obj.cells #[.int .i64 0, .slice none 0 0] 29)).heap[wo.heap.size]? = some (.cells #[.int .i64 what, .int .i64 xa, .int .i64 xb] 31 (0, 0))) := ((Below.heap_alloc _ _ _ (by have := lt_of_heap HX2; simp; omega)).trans (Below.heap_alloc _ _ _ (lt_of_heap HX2))).trans HX2
                have HN3 : Hid (((W2.alloc (Obj.cells #[.int .i64 0, .slice none 0 0] 26)).alloc (Obj.cells #[.int .i64 0, .slice none 0 0] 29)).heap[W2.heap.size]? = some (.cells #[.int .i64 0, .slice none 0 0] 26 (0, 0))) := (Below.heap_alloc _ _ _ (by simp)).trans (heap_alloc_new W2 _)
                have HM3 : Hid (((W2.alloc (Obj.cells #[.int .i64 0, .slice none 0 0] 26)).alloc (Obj.cells #[.int .i64 0, .slice none 0 0] 29)).heap[W2.heap.size + 1]? = some (.cells #[.int .i64 0, .slice none 0 0] 29 (0, 0))) := by
                  have := heap_alloc_new (W2.alloc (Obj.cells #[.int .i64 0, .slice none 0 0] 26)) (Obj.cells #[.int .i64 0, .slice none 0 0] 29)
                  rw [World.size_alloc] at this
                  exact this
                have HP3 : Hid (PI w ((W2.alloc (Obj.cells #[.int .i64 0, .slice none 0 0] 26)).alloc (Obj.cells #[.int .i64 0, .slice none 0 0] 29)) ab bb ver (.slice aa n ac) (.slice ba n bc) l) := HP.out.next HB3.out
                have hwl : wo.heap.size < W2.heap.size := lt_of_heap HX2
                have HWN : Hid (∀ i, (Value.slice wa n wc).ownBlock = some i → i < W2.heap.size) := row_lt hrow
                have H3 : Hid (R3 w wo ((W2.alloc (Obj.cells #[.int .i64 0, .slice none 0 0] 26)).alloc (Obj.cells #[.int .i64 0, .slice none 0 0] 29)) ab bb W2.heap.size what xa xb ver (.slice aa n ac) (.slice ba n bc) (.slice wa n wc) l) := ⟨HP3.out, HX3.out, HN3.out, HM3.out, HW3.out, HB3.out, hwl, fun i e => by have := HWN.out i e; omega⟩
                obtain ⟨g0, g1, g2⟩ := agg3 HX3.out
                obtain ⟨p0, p1, p2, p3⟩ := agg2 HP3.out.a
                obtain ⟨q0, q1, q2, q3⟩ := agg2 HP3.out.b
                clear hrun hrow hg hnr HB2 HX2 x0 x1 x2 x3 xa1 xa2)
              clear g0 g1 g2 p0 p1 p2 p3 q0 q1 q2 q3 HP3 HX3 HN3 HM3 HW3 HB3 HWN hwl
              generalize ((W2.alloc (Obj.cells #[.int .i64 0, .slice none 0 0] 26)).alloc (Obj.cells #[.int .i64 0, .slice none 0 0] 29)) = W at *
              generalize W2.heap.size = nb at *
              clear W2
              have hnbW : nb + 1 < W.heap.size := lt_of_heap H3.out.m
              have hwrW : wo.heap.size ≤ W.heap.size := H3.out.below.size
              have hng := H3.out.nge
              have HC1 : Hid (∀ W, Row W w.heap.size (.slice aa n ac) l → Calls Tryd.prog 10 #[.agg #[.int .i64 ver, .slice aa n ac], .agg #[.int .i64 xa, .int .i64 xb]] W fun r W' => ∃ a c, r = .returned (.tuple #[.agg #[.int .i64 (growV l ⟨xa, xb⟩ ver), .slice a (growL l ⟨xa, xb⟩).length c], errV (growE l ⟨xa, xb⟩)]) ∧ Row W' W.heap.size (.slice a (growL l ⟨xa, xb⟩).length c) (growL l ⟨xa, xb⟩) ∧ Below W.heap.size W W') := fun W hr =>
                (grow_any (w := W) (B := w.heap.size) ver _ l ⟨xa, xb⟩ hr (by omega) HOK.out ⟨hv0, by omega⟩ ⟨by dsimp only; omega, by dsimp only; omega⟩).mono (fun r W' h => h.norm)
              have HC2 : Hid (∀ W, RowR W w.heap.size (.slice ba n bc) l → Calls Tryd.prog 11 #[.agg #[.int .i64 ver, .slice ba n bc], .agg #[.int .i64 xa, .int .i64 xb]] W fun r W' => ∃ a c, r = .returned (.tuple #[.agg #[.int .i64 (growV l ⟨xa, xb⟩ ver), .slice a (growL l ⟨xa, xb⟩).length c], .int .i64 (growE l ⟨xa, xb⟩)]) ∧ RowR W' W.heap.size (.slice a (growL l ⟨xa, xb⟩).length c) (growL l ⟨xa, xb⟩) ∧ Below W.heap.size W W') := fun W hr =>
                (growR_any (w := W) (B := w.heap.size) ver _ l ⟨xa, xb⟩ hr (by omega) HOK.out ⟨hv0, by omega⟩).mono (fun r W' h => h.norm)
              have HFI : Hid (Fine ver (growE l ⟨xa, xb⟩) (growV l ⟨xa, xb⟩ ver) (growL l ⟨xa, xb⟩)) := grow_fine HOK.out HAP.out (by omega) hv0
              generalize growL l ⟨xa, xb⟩ = l' at *
              generalize growV l ⟨xa, xb⟩ ver = ver' at *
              generalize growE l ⟨xa, xb⟩ = f at *
              have hl36 : l'.length ≤ 36 := HFI.out.1
              obtain ⟨n', hn'⟩ : ∃ k, l'.length = k := ⟨_, rfl⟩
              rw [hn'] at hl36
              simp only [hn'] at HC1 HC2
              refine (HC1.out _ H3.out.p.ra).mono ?_
              rintro r W4 ⟨ca, cc, rfl, hr1, hb4⟩
              have H4 : Hid (G4 w wo W ((W4.setCell ⟨nb, 0, none⟩ (.int .i64 ver')).setCell ⟨nb, 1, none⟩ (.slice ca n' cc)) ab bb nb what xa xb ver ver' (.slice aa n ac) (.slice ba n bc) (.slice wa n wc) (.slice ca n' cc) l l') := R3.putn (W0 := W) (H3.out.next hb4) hab HVL.out hnbW hr1
              obtain ⟨e0, e1, e2, e3⟩ := agg2 (H3.out.next hb4).n
              have hWl := hb4.size
              clear hr1 hb4 HC1
              obtain ⟨g0, g1, g2⟩ := agg3 H4.out.x
              obtain ⟨q0, q1, q2, q3⟩ := agg2 H4.out.p.b
              go_wp2_with fail
              clear e0 e1 e2 e3
              have hWs : W.heap.size ≤ ((W4.setCell ⟨nb, 0, none⟩ (.int .i64 ver')).setCell ⟨nb, 1, none⟩ (.slice ca n' cc)).heap.size := by simp only [World.setCell, Array.size_modify]; exact hWl
              generalize ((W4.setCell ⟨nb, 0, none⟩ (.int .i64 ver')).setCell ⟨nb, 1, none⟩ (.slice ca n' cc)) = W4s at *
              refine (HC2.out _ H4.out.p.rb).mono ?_
              rintro r W5 ⟨da, dc, rfl, hr3, hb5⟩
              have H5 : Hid (G4 w wo W W5 ab bb nb what xa xb ver ver' (.slice aa n ac) (.slice ba n bc) (.slice wa n wc) (.slice ca n' cc) l l') := H4.out.next hb5
              have H8 : Hid (R5 w wo ((W5.setCell ⟨nb + 1, 0, none⟩ (.int .i64 ver')).setCell ⟨nb + 1, 1, none⟩ (.slice da n' dc)) ab bb nb ver ver' (.slice aa n ac) (.slice ba n bc) (.slice wa n wc) (.slice ca n' cc) (.slice da n' dc) l l') := G4.putw H5.out hab HVL.out hnbW hwrW (row_base hr3 hWs)
              obtain ⟨e0, e1, e2, e3⟩ := agg2 H5.out.m
              clear hr3 hb5 HC2 H4 g0 g1 g2 q0 q1 q2 q3
              go_wp2_with fail
              clear e0 e1 e2 e3
              generalize ((W5.setCell ⟨nb + 1, 0, none⟩ (.int .i64 ver')).setCell ⟨nb + 1, 1, none⟩ (.slice da n' dc)) = W8 at *
              have hE8 := HE.out.below H8.out.p.below HE.out.lt
              refine (code_any f _ hE8).mono ?_
              rintro r W9 ⟨rfl, hb9⟩
              have H9 : Hid (R5 w wo W9 ab bb nb ver ver' (.slice aa n ac) (.slice ba n bc) (.slice wa n wc) (.slice ca n' cc) (.slice da n' dc) l l') := H8.out.next hb9
              clear hb9 H8 hE8
              obtain ⟨c0, c1, _, _⟩ := agg2 H9.out.q.n
              obtain ⟨d0, d1, _, _⟩ := agg2 H9.out.q.w
              go_wp2_with fail
              refine (same_any (w := W9) (B := wo.heap.size) (C := wo.heap.size) ver' _ _ l' H9.out.q.rn H9.out.q.rw (by omega)).mono ?_
              rintro r Wa ⟨rfl, hba⟩
              have Ha : Hid (R5 w wo Wa ab bb nb ver ver' (.slice aa n ac) (.slice ba n bc) (.slice wa n wc) (.slice ca n' cc) (.slice da n' dc) l l') := H9.out.next hba
              clear hba H9 c0 c1 d0 d1
              obtain ⟨p0, p1, _, _⟩ := agg2 Ha.out.p.a
              go_wp2_with fail
              clear p0 p1
              go_loopw [25] (fun i wq => ∃ j : Nat, j ≤ n ∧ i = .int .i64 j ∧ Below Wa.heap.size Wa wq) (fun i _ => n - (intOf i).toNat)
              case atStart => exact ⟨0, Nat.zero_le _, rfl, Below.refl _ _⟩
              case round =>
                obtain ⟨j, hj, rfl, hBq⟩ := hrel
                have Hb : Hid (R5 w wo wr ab bb nb ver ver' (.slice aa n ac) (.slice ba n bc) (.slice wa n wc) (.slice ca n' cc) (.slice da n' dc) l l') := Ha.out.next hBq
                have HBQ : Hid (Below Wa.heap.size Wa wr) := hBq
                clear hBq
                obtain ⟨p0, p1, _, _⟩ := agg2 Hb.out.p.a
                by_cases hjl : j < n
                · obtain ⟨ya, cap3, he⟩ := row_some Hb.out.p.ra (by omega)
                  rw [hln] at he
                  cases he
                  obtain ⟨yb, cap4, he⟩ := row_some Hb.out.was (by omega)
                  rw [hln] at he
                  cases he
                  obtain ⟨e0, e1⟩ := Hb.out.p.ra.ext j (by omega)
                  obtain ⟨f0, f1⟩ := Hb.out.was.ext j (by omega)
                  generalize l[j] = y at *
                  obtain ⟨yp, yl⟩ := y
                  dsimp only at e0 e1 f0 f1
                  go_wp2_with fail
                  refine wp_region_held_drew (S := fun W => W.cell? ⟨ab, 1, none⟩ = some (.slice (some ⟨ya, 0, none⟩) n ac) ∧ W.cell? ⟨ya, j * 2, none⟩ = some (.int .i64 yp) ∧ W.cell? ⟨ya, j * 2 + 1, none⟩ = some (.int .i64 yl) ∧ W.cell? ⟨yb, j * 2, none⟩ = some (.int .i64 yp) ∧ W.cell? ⟨yb, j * 2 + 1, none⟩ = some (.int .i64 yl)) (by kernel_rfl) (by exact ⟨p1, e0, e1, f0, f1⟩) (fun hHeld => ?_)
                  change wpAnyH _ _ _ _ _ 10 (Array.replicate 10 false) _ _
                  refine wpAnyH_take (i := 0) (oi := _) (v := _) (by simp only [List.getElem?_toArray, List.getElem?_cons_zero]; rfl) (by kernel_rfl) (by kernel_rfl) (by kernel_rfl) (by exact fun _ _ _ h => h) (Or.inl ⟨by rfl, by intro w' hSw; (try dsimp only at hSw); first | (go_simp; done) | (go_simp; with_reducible rfl)⟩) hHeld ?_
                  simp only [Act.put, List.setIfInBounds_toArray, List.set_cons_zero, List.set_cons_succ]
                  refine wpAnyH_take (i := 1) (oi := _) (v := _) (by simp only [List.getElem?_toArray, List.getElem?_cons_succ, List.getElem?_cons_zero]; rfl) (by kernel_rfl) (by kernel_rfl) (by kernel_rfl) (by exact fun _ _ _ h => h) (Or.inl ⟨by rfl, by intro w' hSw; (try dsimp only at hSw); first | (go_simp; done) | (go_simp; with_reducible rfl)⟩) hHeld ?_
                  simp only [Act.put, List.setIfInBounds_toArray, List.set_cons_zero, List.set_cons_succ]
                  refine wpAnyH_take (i := 2) (oi := _) (v := _) (by simp only [List.getElem?_toArray, List.getElem?_cons_succ, List.getElem?_cons_zero]; rfl) (by kernel_rfl) (by kernel_rfl) (by kernel_rfl) (by exact fun _ _ _ h => h) (Or.inl ⟨by rfl, by intro w' hSw; (try dsimp only at hSw); first | (go_simp; done) | (go_simp; with_reducible rfl)⟩) hHeld ?_
                  simp only [Act.put, List.setIfInBounds_toArray, List.set_cons_zero, List.set_cons_succ]
                  refine wpAnyH_take (i := 3) (oi := _) (v := _) (by simp only [List.getElem?_toArray, List.getElem?_cons_succ, List.getElem?_cons_zero]; rfl) (by kernel_rfl) (by kernel_rfl) (by kernel_rfl) (by exact fun _ _ _ h => h) (Or.inl ⟨by rfl, by intro w' hSw; (try dsimp only at hSw); first | (go_simp; done) | (go_simp; with_reducible rfl)⟩) hHeld ?_
                  simp only [Act.put, List.setIfInBounds_toArray, List.set_cons_zero, List.set_cons_succ]
                  refine wpAnyH_take (i := 4) (oi := _) (v := _) (by simp only [List.getElem?_toArray, List.getElem?_cons_succ, List.getElem?_cons_zero]; rfl) (by kernel_rfl) (by kernel_rfl) (by kernel_rfl) (by exact fun _ _ _ h => h) (Or.inl ⟨by rfl, by intro w' hSw; (try dsimp only at hSw); first | (go_simp; done) | (go_simp; with_reducible rfl)⟩) hHeld ?_
                  simp only [Act.put, List.setIfInBounds_toArray, List.set_cons_zero, List.set_cons_succ]
                  refine wpAnyH_take (i := 5) (oi := _) (v := _) (by simp only [List.getElem?_toArray, List.getElem?_cons_succ, List.getElem?_cons_zero]; rfl) (by kernel_rfl) (by kernel_rfl) (by kernel_rfl) (by exact fun _ _ _ h => h) (Or.inl ⟨by rfl, by intro w' hSw; (try dsimp only at hSw); first | (go_simp; done) | (go_simp; with_reducible rfl)⟩) hHeld ?_
                  simp only [Act.put, List.setIfInBounds_toArray, List.set_cons_zero, List.set_cons_succ]
                  refine wpAnyH_take (i := 6) (oi := _) (v := _) (by simp only [List.getElem?_toArray, List.getElem?_cons_succ, List.getElem?_cons_zero]; rfl) (by kernel_rfl) (by kernel_rfl) (by kernel_rfl) (by exact fun _ _ _ h => h) (Or.inl ⟨by rfl, by intro w' hSw; (try dsimp only at hSw); first | (go_simp; done) | (go_simp; with_reducible rfl)⟩) hHeld ?_
                  simp only [Act.put, List.setIfInBounds_toArray, List.set_cons_zero, List.set_cons_succ]
                  refine wpAnyH_take (i := 7) (oi := _) (v := _) (by simp only [List.getElem?_toArray, List.getElem?_cons_succ, List.getElem?_cons_zero]; rfl) (by kernel_rfl) (by kernel_rfl) (by kernel_rfl) (by exact fun _ _ _ h => h) (Or.inl ⟨by rfl, by intro w' hSw; (try dsimp only at hSw); first | (go_simp; done) | (go_simp; with_reducible rfl)⟩) hHeld ?_
                  simp only [Act.put, List.setIfInBounds_toArray, List.set_cons_zero, List.set_cons_succ]
                  refine wpAnyH_take (i := 8) (oi := _) (v := _) (by simp only [List.getElem?_toArray, List.getElem?_cons_succ, List.getElem?_cons_zero]; rfl) (by kernel_rfl) (by kernel_rfl) (by kernel_rfl) (by exact fun _ _ _ h => h) (Or.inl ⟨by rfl, by intro w' hSw; (try dsimp only at hSw); first | (go_simp; done) | (go_simp; with_reducible rfl)⟩) hHeld ?_
                  simp only [Act.put, List.setIfInBounds_toArray, List.set_cons_zero, List.set_cons_succ]
                  refine wpAnyH_take (i := 9) (oi := _) (v := _) (by simp only [List.getElem?_toArray, List.getElem?_cons_succ, List.getElem?_cons_zero]; rfl) (by kernel_rfl) (by kernel_rfl) (by kernel_rfl) (by exact fun _ _ _ h => h) (Or.inl ⟨by rfl, by intro w' hSw; (try dsimp only at hSw); first | (go_simp; done) | (go_simp; with_reducible rfl)⟩) hHeld ?_
                  simp only [Act.put, List.setIfInBounds_toArray, List.set_cons_zero, List.set_cons_succ]
                  refine wpAnyH_done (by kernel_rfl) ?_ _
                  go_wp2
                  go_roundw
                  case rel => exact ⟨j + 1, by omega, by go_num, HBQ.out.drew⟩
                  case measure => simp [intOf]; omega
                · obtain rfl : j = n := by omega
                  by_cases hf0 : f = 0
                  · have hf0' : (f == 0) = true := by rw [beq_iff_eq]; exact hf0
                    obtain ⟨hok', hap', hv1', hv2'⟩ := HFI.out.2 hf0
                    have HOK' : Hid (OkL l') := hok'
                    have HAP' : Hid (Apart l') := hap'
                    clear hok' hap' hf0
                    obtain ⟨c0, c1, _, _⟩ := agg2 Hb.out.q.n
                    obtain ⟨d0, d1, _, _⟩ := agg2 Hb.out.q.w
                    have Hbd : Hid (R5 w wo wr.drew ab bb nb ver ver' (.slice aa j ac) (.slice ba j bc) (.slice wa j wc) (.slice ca n' cc) (.slice da n' dc) l l') := Hb.out.next (Below.refl _ _).drew
                    have hne := HP.out.abne
                    go_wp2_with fail
                    refine wp_region_held_drew (S := fun W => W.cell? ⟨nb, 0, none⟩ = some (.int .i64 ver') ∧ W.cell? ⟨nb, 1, none⟩ = some (.slice ca n' cc) ∧ W.cell? ⟨nb + 1, 0, none⟩ = some (.int .i64 ver') ∧ W.cell? ⟨nb + 1, 1, none⟩ = some (.slice da n' dc)) (by kernel_rfl) (by exact ⟨c0, c1, d0, d1⟩) (fun hHeld => ?_)
                    change wpAnyH _ _ _ _ _ 4 (Array.replicate 4 false) _ _
                    refine wpAnyH_take (i := 0) (oi := _) (v := _) (by simp only [List.getElem?_toArray, List.getElem?_cons_zero]; rfl) (by kernel_rfl) (by kernel_rfl) (by kernel_rfl) (by exact fun _ _ _ h => h) (Or.inl ⟨by rfl, by intro w' hSw; (try dsimp only at hSw); first | (go_simp; done) | (go_simp; with_reducible rfl)⟩) hHeld ?_
                    simp only [Act.put, List.setIfInBounds_toArray, List.set_cons_zero, List.set_cons_succ]
                    refine wpAnyH_take (i := 1) (oi := _) (v := _) (by simp only [List.getElem?_toArray, List.getElem?_cons_succ, List.getElem?_cons_zero]; rfl) (by kernel_rfl) (by kernel_rfl) (by kernel_rfl) (by exact fun _ _ _ h => h) (Or.inl ⟨by rfl, by intro w' hSw; (try dsimp only at hSw); first | (go_simp; done) | (go_simp; with_reducible rfl)⟩) hHeld ?_
                    simp only [Act.put, List.setIfInBounds_toArray, List.set_cons_zero, List.set_cons_succ]
                    refine wpAnyH_ready (rs := [2]) (by kernel_rfl) (by simp) ?_
                    refine AllReadyH.cons rfl (fun K hK => ?_) AllReadyH.nil
                    generalize wr.drew = wd at *
                    obtain ⟨y0, y1, z0, z1⟩ := agg2 Hbd.out.p.a
                    go_simp
                    refine hK.out _ _ ⟨?_, ?_, ?_, ?_⟩ (fun hHeld => ?_)
                    · rw [World.cell?_setCell_other _ _ _ _ (by intro h; simp only [Addr.mk.injEq] at h; omega), World.cell?_setCell_other _ _ _ _ (by intro h; simp only [Addr.mk.injEq] at h; omega)]; exact hHeld.1
                    · rw [World.cell?_setCell_other _ _ _ _ (by intro h; simp only [Addr.mk.injEq] at h; omega), World.cell?_setCell_other _ _ _ _ (by intro h; simp only [Addr.mk.injEq] at h; omega)]; exact hHeld.2.1
                    · rw [World.cell?_setCell_other _ _ _ _ (by intro h; simp only [Addr.mk.injEq] at h; omega), World.cell?_setCell_other _ _ _ _ (by intro h; simp only [Addr.mk.injEq] at h; omega)]; exact hHeld.2.2.1
                    · rw [World.cell?_setCell_other _ _ _ _ (by intro h; simp only [Addr.mk.injEq] at h; omega), World.cell?_setCell_other _ _ _ _ (by intro h; simp only [Addr.mk.injEq] at h; omega)]; exact hHeld.2.2.2
                    clear hK K y0 y1 z0 z1
                    refine wpAnyH_ready (rs := [3]) (by kernel_rfl) (by simp) ?_
                    refine AllReadyH.cons rfl (fun K hK => ?_) AllReadyH.nil
                    have hm7 : ((wd.setCell ⟨ab, 0, none⟩ (.int .i64 ver')).setCell ⟨ab, 1, none⟩ (.slice ca n' cc)).heap[bb]? = some (.cells #[.int .i64 ver, .slice ba j bc] 29 (0, 0)) := (set2_other (fun e => hne e.symm) _ _).trans Hbd.out.p.b
                    obtain ⟨y0, y1, z0, z1⟩ := agg2 hm7
                    go_simp
                    refine hK.out _ _ ⟨?_, ?_, ?_, ?_⟩ (fun hHeld => ?_)
                    · rw [World.cell?_setCell_other _ _ _ _ (by intro h; simp only [Addr.mk.injEq] at h; omega), World.cell?_setCell_other _ _ _ _ (by intro h; simp only [Addr.mk.injEq] at h; omega)]; exact hHeld.1
                    · rw [World.cell?_setCell_other _ _ _ _ (by intro h; simp only [Addr.mk.injEq] at h; omega), World.cell?_setCell_other _ _ _ _ (by intro h; simp only [Addr.mk.injEq] at h; omega)]; exact hHeld.2.1
                    · rw [World.cell?_setCell_other _ _ _ _ (by intro h; simp only [Addr.mk.injEq] at h; omega), World.cell?_setCell_other _ _ _ _ (by intro h; simp only [Addr.mk.injEq] at h; omega)]; exact hHeld.2.2.1
                    · rw [World.cell?_setCell_other _ _ _ _ (by intro h; simp only [Addr.mk.injEq] at h; omega), World.cell?_setCell_other _ _ _ _ (by intro h; simp only [Addr.mk.injEq] at h; omega)]; exact hHeld.2.2.2
                    clear hK K y0 y1 z0 z1 hm7
                    refine wpAnyH_done (by kernel_rfl) ?_ _
                    have Hc : Hid (PI w ((((wd.setCell ⟨ab, 0, none⟩ (.int .i64 ver')).setCell ⟨ab, 1, none⟩ (.slice ca n' cc)).setCell ⟨bb, 0, none⟩ (.int .i64 ver')).setCell ⟨bb, 1, none⟩ (.slice da n' dc)) ab bb ver' (.slice ca n' cc) (.slice da n' dc) l') := PI.put HP.out Hbd.out.q.below Hbd.out.q.rn Hbd.out.q.rw
                    clear hHeld
                    generalize ((((wd.setCell ⟨ab, 0, none⟩ (.int .i64 ver')).setCell ⟨ab, 1, none⟩ (.slice ca n' cc)).setCell ⟨bb, 0, none⟩ (.int .i64 ver')).setCell ⟨bb, 1, none⟩ (.slice da n' dc)) = We at *
                    clear c0 c1 d0 d1 p0 p1
                    obtain ⟨p0, p1, _, _⟩ := agg2 Hc.out.a
                    have hR := right_any (w := We) (B := w.heap.size) ver' _ l' 2048 Hc.out.ra (by omega) (fun e he => by have := HOK'.out e he; unfold Ok at this; omega)
                    rw [rightB_yes ⟨hv1', by omega⟩ (by omega) HAP'.out HOK'.out] at hR
                    go_wp2_with fail
                    refine hR.mono ?_
                    rintro r Wf ⟨rfl, hbf⟩
                    have Hf : Hid (PI w Wf ab bb ver' (.slice ca n' cc) (.slice da n' dc) l') := Hc.out.next hbf
                    clear hbf hR
                    go_wp2
                    go_roundw
                    case rel => exact ⟨k + 1, ver', ca, da, cc, dc, l', by omega, by omega, by go_num, hv1', by omega, by omega, HOK'.out, HAP'.out, by rw [hn']; exact Hf.out⟩
                    case measure => simp [intOf]; omega
                  · have hf0' : (f == 0) = false := by rw [beq_eq_false_iff_ne]; exact hf0
                    clear hf0
                    have hR := right_any (w := wr) (B := w.heap.size) ver _ l 2048 Hb.out.p.ra (by omega) (fun e he => by have := HOK.out e he; unfold Ok at this; omega)
                    rw [rightB_yes ⟨hv0, by omega⟩ (by omega) HAP.out HOK.out] at hR
                    go_wp2_with fail
                    refine hR.mono ?_
                    rintro r Wc ⟨rfl, hbc⟩
                    have Hc : Hid (PI w Wc ab bb ver (.slice aa j ac) (.slice ba j bc) l) := Hb.out.p.next hbc
                    clear hbc hR
                    go_wp2
                    go_roundw
                    case rel => exact ⟨k + 1, ver, aa, ba, ac, bc, l, by omega, by omega, by go_num, hv0, by omega, by omega, HOK.out, HAP.out, by rw [hln]; exact Hc.out⟩
                    case measure => simp [intOf]; omega
      · have hlt' : (k : Int) < (len : Int) := by omega
        have h60' : decide ((k : Int) < 60) = false := decide_eq_false (by omega)
        go_wp2
        go_ret
        exact ⟨rfl, HP.out.below⟩
    · have hlt' : decide ((k : Int) < (len : Int)) = false := decide_eq_false (by omega)
      have hlt'' : decide (k < len) = false := decide_eq_false hlt
      go_wp2
      go_ret
      exact ⟨rfl, HP.out.below⟩

theorem inodePlays_calls {H : Type} {enc : TypeId × Value → H} {sp : Nat → Bool} {held : Bool} {d : DataW H} {p : List MemPlace} (sa : Option Addr) (len cap : Nat) (w : World) (h : DataW.Trod enc Tryd.prog w 0 sp held 22 (.slice sa len cap) d p) (hE : ErrT w) :
    Calls Tryd.prog 3 #[.slice sa len cap] w fun r w' => r = .returned (.bool true) ∧ Below w.heap.size w w' := by
  obtain ⟨L, hI, hlen⟩ := IdA.items_of_trod h
  exact inodePlays_walk sa len cap L w hlen hI hE

end Go.Proofs.YtadimbpgdihjlaaDoor.Id
