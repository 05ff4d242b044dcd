/-
  InodePuts of layer 8. Conditions: errors.errorType holds its handle, the table of four steps holds what its initialiser lays.
-/
import Derived.Test.YtadimbpgdihjlaaGreatDoorIdGets
import Derived.Test.YtadimbpgdihjlaaGreatDoorIdPutR
import Derived.Test.YtadimbpgdihjlaaGreatDoorIdBoth
namespace Go.Proofs.YtadimbpgdihjlaaGreatDoor.Id
open Go.ChangeShapes Go.WideShapes Go.ChangeAt Go.RowKit Go.Proofs.Fa
open Go.Proofs.YtadimbpgdihjlaaGreatDoor.As (ErrT)
open Go.Proofs.YtadimbpgdihjlaaGreatDoor.Mk (NibAt sealS sealF openF open_seal padS padS_size)
open Go.Proofs.YtadimbpgdihjlaaGreatDoor.Le (streq_yes)

set_option maxRecDepth 100000
set_option maxHeartbeats 4000000

/-- The two inodes of one list of extents. -/
structure PI (w W : World) (ab : Nat) (ver : Int) (v u : Value) (l : List Ext) : Prop where
  x : W.heap[ab]? = some (.cells #[.int .i64 ver, v] 26 (0, 0))
  y : W.heap[ab + 1]? = some (.cells #[.int .i64 ver, u] 29 (0, 0))
  rx : Row W 0 v l
  ry : RowR W 0 u l
  below : Below w.heap.size w W
theorem PI.step {w W W' : World} {ab : Nat} {ver : Int} {v u : Value} {l : List Ext} (h : PI w W ab ver v u l) (hb : Below W.heap.size W W') : PI w W' ab ver v u l :=
  ⟨(hb.block _ (lt_of_heap h.x)).trans h.x, (hb.block _ (lt_of_heap h.y)).trans h.y, row_below h.rx hb (Nat.le_refl _), row_below h.ry hb (Nat.le_refl _), h.below.trans (hb.mono h.below.size)⟩
theorem PI.drew {w W : World} {ab : Nat} {ver : Int} {v u : Value} {l : List Ext} (h : PI w W ab ver v u l) : PI w W.drew ab ver v u l :=
  ⟨h.x, h.y, World.ownsRow.drew h.rx, World.ownsRow.drew h.ry, h.below.drew⟩

theorem inodePuts_walk (ver : Int) (a : Option Addr) (len cap : Nat) (L : Nat → Ext) (s : Int) (w : World) (hI : ItemsAt w a len L) (hE : ErrT w) (hn : NibAt w) :
    Calls Tryz.prog 3 #[.int .i64 ver, .slice a len cap, .int .i64 s] w fun r w' => r = .returned (.bool true) ∧ Below w.heap.size w w' := by
  have HE : Hid (ErrT w) := hE
  have HN : Hid (NibAt w) := hn
  have HI0 : Hid (ItemsAt w a len L) := hI
  clear hE hn hI
  go_enter Tryz.func3, Tryz.ntmps3
  go_wp2_with fail
  refine (speaks_any _).mono ?_
  rintro r w1 ⟨rfl, hb1⟩
  have HB1 : Hid (Below w.heap.size w w1) := hb1
  clear hb1
  go_wp2_with fail
  refine (both_any (w := w1) ver a len cap L (HI0.out.below HB1.out (Nat.le_refl _))).mono ?_
  rintro r w2 ⟨⟨av, bv, rfl, hra, hrb⟩, hb2⟩
  obtain ⟨l, hl⟩ : ∃ l, lst L (min len 40) = l := ⟨_, rfl⟩
  have HWF : Hid (∀ e ∈ l, -9223372036854775808 ≤ e.pos ∧ e.pos ≤ 9223372036854775807) := by
    intro e he
    rw [← hl] at he
    obtain ⟨i, hi, rfl⟩ := List.mem_map.1 he
    have h2 := (HI0.out.2 i (by have := List.mem_range.1 hi; omega)).1
    simp only [Lit.wf, IntKind.min, IntKind.max, IntKind.signed, IntKind.bits, Bool.and_eq_true, decide_eq_true_eq, if_true] at h2
    omega
  obtain ⟨n, hn⟩ : ∃ n, l.length = n := ⟨_, rfl⟩
  have hn40 : n ≤ 40 := by rw [← hn, ← hl, lst_length]; omega
  have HLN : Hid (l.length ≤ 1000) := by show _ ≤ _; omega
  rw [hl] at hra hrb
  obtain ⟨aa, ac, hav, _⟩ := row_slice hra
  obtain ⟨ba, bc, hbv, _⟩ := row_slice hrb
  rw [hn] at hav hbv
  subst hav hbv
  rw [show ino ver (.slice aa n ac) = .agg #[.int .i64 ver, .slice aa n ac] from rfl, show ino ver (.slice ba n bc) = .agg #[.int .i64 ver, .slice ba n bc] from rfl]
  obtain ⟨w3, hw3⟩ : ∃ w3, w3 = (w2.alloc (Obj.cells #[.int .i64 ver, .slice aa n ac] 26)).alloc (Obj.cells #[.int .i64 ver, .slice ba n bc] 29) := ⟨_, rfl⟩
  have hb3 : Below w2.heap.size w2 w3 := by rw [hw3]; exact ((Below.refl _ _).alloc (Nat.le_refl _) _).alloc (by simp) _
  obtain ⟨ab, hab⟩ : ∃ ab, ab = w2.heap.size := ⟨_, rfl⟩
  have HP3 : Hid (PI w w3 ab ver (.slice aa n ac) (.slice ba n bc) l) := by
    refine ⟨?_, ?_, row_base (row_below hra hb3 (Nat.le_refl _)) (Nat.zero_le _), row_base (row_below hrb hb3 (Nat.le_refl _)) (Nat.zero_le _), (HB1.out.trans (hb2.mono HB1.out.size)).trans (hb3.mono (HB1.out.trans (hb2.mono HB1.out.size)).size)⟩
    · rw [hw3, hab]; exact (Below.heap_alloc _ _ _ (by simp)).trans (heap_alloc_new _ _)
    · rw [hw3, hab]
      have := heap_alloc_new (w2.alloc (Obj.cells #[.int .i64 ver, .slice aa n ac] 26)) (Obj.cells #[.int .i64 ver, .slice ba n bc] 29)
      rw [World.size_alloc] at this
      exact this
  clear hra hrb hb2 hb3 hl HB1 HI0
  have HRI : Hid (∀ W, PI w W ab ver (.slice aa n ac) (.slice ba n bc) l → Calls Tryz.prog 10 #[.agg #[.int .i64 ver, .slice aa n ac], .int .i64 s] W fun r w' => r = .returned (.bool (rightB ver l s)) ∧ Below W.heap.size W w') := fun W h => right_any (w := W) ver _ l s h.rx HLN.out HWF.out
  have HRR : Hid (∀ W, PI w W ab ver (.slice aa n ac) (.slice ba n bc) l → Calls Tryz.prog 11 #[.agg #[.int .i64 ver, .slice ba n bc], .int .i64 s] W fun r w' => r = .returned (.bool (rightB ver l s)) ∧ Below W.heap.size W w') := fun W h => refrightX_any (w := W) ver _ l s h.ry HLN.out
  obtain ⟨rs, hrs⟩ : ∃ x, rightB ver l s = x := ⟨_, rfl⟩
  rw [hrs] at HRI HRR
  clear hrs
  have hput : ∃ (sec b : ByteArray) (f : Int), Hid (∀ W, PI w W ab ver (.slice aa n ac) (.slice ba n bc) l → Calls Tryz.prog 7 #[.agg #[.int .i64 ver, .slice aa n ac]] W fun r w' => r = .returned (.tuple #[.string sec, errV f]) ∧ Below W.heap.size W w') ∧
      Hid (∀ W, PI w W ab ver (.slice aa n ac) (.slice ba n bc) l → Calls Tryz.prog 8 #[.agg #[.int .i64 ver, .slice ba n bc]] W fun r w' => r = .returned (.tuple #[.string sec, .int .i64 f]) ∧ Below W.heap.size W w') ∧
      Hid (f = 0 → openF 6 sec = (b, 0) ∧ b.size = 504) := by
    cases hp : rightB ver l 2048
    · refine ⟨ByteArray.empty, ByteArray.empty, 1, fun W h => put_no (w := W) ver _ l h.rx HLN.out HWF.out hp, fun W h => putR_no (w := W) ver _ l h.ry HLN.out hp, fun h => by cases h⟩
    · have hz := bodyI_size hp
      refine ⟨sealS 6 (bodyI ver l), padS (bodyI ver l), 0, fun W h => put_yes (w := W) ver _ l h.rx HWF.out hp (HN.out.below h.below), fun W h => putR_yes (w := W) ver _ l h.ry hp, fun _ => ⟨open_seal (by decide) (by decide) hz, padS_size hz⟩⟩
  obtain ⟨sec, b, f, HPU, HPR, HOP⟩ := hput
  have hC := fun w hE => code_any f w hE
  have HEV : Hid (f = 0 → errV f = .nilIface) := fun h => by rw [h]; rfl
  generalize errV f = ev at *
  have hq0 : (sec.toList == sec.toList) = true := streq_yes rfl
  have hq1 : (rs == rs) = true := by simp
  go_wp2_with fail
  rw [← hw3, ← hab]
  clear hw3 hab
  refine (HPU.out _ HP3.out).mono ?_
  rintro r w4 ⟨rfl, hb4⟩
  have HP4 : Hid (PI w w4 ab ver (.slice aa n ac) (.slice ba n bc) l) := HP3.out.step hb4
  clear hb4 HP3 HPU
  obtain ⟨y0, y1, _, _⟩ := agg2 HP4.out.y
  go_wp2_with fail
  refine (HPR.out _ HP4.out).mono ?_
  rintro r w5 ⟨rfl, hb5⟩
  have HP5 : Hid (PI w w5 ab ver (.slice aa n ac) (.slice ba n bc) l) := HP4.out.step hb5
  have HP5d : Hid (PI w w5.drew ab ver (.slice aa n ac) (.slice ba n bc) l) := HP5.out.drew
  clear hb5 HP4 HPR y0 y1
  obtain ⟨x0, x1, _, _⟩ := agg2 HP5.out.x
  obtain ⟨y0, y1, _, _⟩ := agg2 HP5.out.y
  go_wp2_with fail
  refine wp_region_held_drew (S := fun W => W.cell? ⟨ab, 0, none⟩ = some (.int .i64 ver) ∧ W.cell? ⟨ab, 1, none⟩ = some (.slice aa n ac) ∧ W.cell? ⟨ab + 1, 0, none⟩ = some (.int .i64 ver) ∧ W.cell? ⟨ab + 1, 1, none⟩ = some (.slice ba n bc)) (by kernel_rfl) (by exact ⟨x0, x1, y0, y1⟩) (fun hHeld => ?_)
  change wpAnyH _ _ _ _ _ 18 (Array.replicate 18 false) _ _
  refine wpAnyH_take (i := 0) (oi := _) (v := _) (by simp only [List.getElem?_toArray, List.getElem?_cons_zero]; rfl) (by kernel_rfl) (by kernel_rfl) (by kernel_rfl) (by exact fun _ _ _ h => h) (Or.inl ⟨by rfl, by intro w' hSw; (try dsimp only at hSw); first | (go_simp; done) | (go_simp; with_reducible rfl)⟩) hHeld ?_
  simp only [Act.put, List.setIfInBounds_toArray, List.set_cons_zero, List.set_cons_succ]
  refine wpAnyH_take (i := 1) (oi := _) (v := _) (by simp only [List.getElem?_toArray, List.getElem?_cons_succ, List.getElem?_cons_zero]; rfl) (by kernel_rfl) (by kernel_rfl) (by kernel_rfl) (by exact fun _ _ _ h => h) (Or.inl ⟨by rfl, by intro w' hSw; (try dsimp only at hSw); first | (go_simp; done) | (go_simp; with_reducible rfl)⟩) hHeld ?_
  simp only [Act.put, List.setIfInBounds_toArray, List.set_cons_zero, List.set_cons_succ]
  refine wpAnyH_take (i := 2) (oi := _) (v := _) (by simp only [List.getElem?_toArray, List.getElem?_cons_succ, List.getElem?_cons_zero]; rfl) (by kernel_rfl) (by kernel_rfl) (by kernel_rfl) (by exact fun _ _ _ h => h) (Or.inl ⟨by rfl, by intro w' hSw; (try dsimp only at hSw); first | (go_simp; done) | (go_simp; with_reducible rfl)⟩) hHeld ?_
  simp only [Act.put, List.setIfInBounds_toArray, List.set_cons_zero, List.set_cons_succ]
  refine wpAnyH_take (i := 3) (oi := _) (v := _) (by simp only [List.getElem?_toArray, List.getElem?_cons_succ, List.getElem?_cons_zero]; rfl) (by kernel_rfl) (by kernel_rfl) (by kernel_rfl) (by exact fun _ _ _ h => h) (Or.inl ⟨by rfl, by intro w' hSw; (try dsimp only at hSw); first | (go_simp; done) | (go_simp; with_reducible rfl)⟩) hHeld ?_
  simp only [Act.put, List.setIfInBounds_toArray, List.set_cons_zero, List.set_cons_succ]
  refine wpAnyH_take (i := 4) (oi := _) (v := _) (by simp only [List.getElem?_toArray, List.getElem?_cons_succ, List.getElem?_cons_zero]; rfl) (by kernel_rfl) (by kernel_rfl) (by kernel_rfl) (by exact fun _ _ _ h => h) (Or.inl ⟨by rfl, by intro w' hSw; (try dsimp only at hSw); first | (go_simp; done) | (go_simp; with_reducible rfl)⟩) hHeld ?_
  simp only [Act.put, List.setIfInBounds_toArray, List.set_cons_zero, List.set_cons_succ]
  refine wpAnyH_take (i := 6) (oi := _) (v := _) (by simp only [List.getElem?_toArray, List.getElem?_cons_succ, List.getElem?_cons_zero]; rfl) (by kernel_rfl) (by kernel_rfl) (by kernel_rfl) (by exact fun _ _ _ h => h) (Or.inl ⟨by rfl, by intro w' hSw; (try dsimp only at hSw); first | (go_simp; done) | (go_simp; with_reducible rfl)⟩) hHeld ?_
  simp only [Act.put, List.setIfInBounds_toArray, List.set_cons_zero, List.set_cons_succ]
  refine wpAnyH_ready (rs := [5]) (by kernel_rfl) (by simp) ?_
  refine AllReadyH.cons rfl (fun K hK => ?_) AllReadyH.nil
  go_simp
  go_wp2_with fail
  refine (hC _ (HE.out.below HP5d.out.below HE.out.lt)).mono ?_
  rintro r w6 ⟨rfl, hb6⟩
  have HP6 : Hid (PI w w6 ab ver (.slice aa n ac) (.slice ba n bc) l) := HP5d.out.step hb6
  refine hK.out _ _ ⟨(agg2 HP6.out.x).1, (agg2 HP6.out.x).2.1, (agg2 HP6.out.y).1, (agg2 HP6.out.y).2.1⟩ (fun hHeld => ?_)
  clear hK K hb6
  refine wpAnyH_take (i := 7) (oi := _) (v := _) (by simp only [List.getElem?_toArray, List.getElem?_cons_succ, List.getElem?_cons_zero]; rfl) (by kernel_rfl) (by kernel_rfl) (by kernel_rfl) (by exact fun _ _ _ h => h) (Or.inl ⟨by rfl, by intro w' hSw; (try dsimp only at hSw); first | (go_simp; done) | (go_simp; with_reducible rfl)⟩) hHeld ?_
  simp only [Act.put, List.setIfInBounds_toArray, List.set_cons_zero, List.set_cons_succ]
  refine wpAnyH_take (i := 8) (oi := _) (v := _) (by simp only [List.getElem?_toArray, List.getElem?_cons_succ, List.getElem?_cons_zero]; rfl) (by kernel_rfl) (by kernel_rfl) (by kernel_rfl) (by exact fun _ _ _ h => h) (Or.inl ⟨by rfl, by intro w' hSw; (try dsimp only at hSw); first | (go_simp; done) | (go_simp; with_reducible rfl)⟩) hHeld ?_
  simp only [Act.put, List.setIfInBounds_toArray, List.set_cons_zero, List.set_cons_succ]
  refine wpAnyH_take (i := 9) (oi := _) (v := _) (by simp only [List.getElem?_toArray, List.getElem?_cons_succ, List.getElem?_cons_zero]; rfl) (by kernel_rfl) (by kernel_rfl) (by kernel_rfl) (by exact fun _ _ _ h => h) (Or.inl ⟨by rfl, by intro w' hSw; (try dsimp only at hSw); first | (go_simp; done) | (go_simp; with_reducible rfl)⟩) hHeld ?_
  simp only [Act.put, List.setIfInBounds_toArray, List.set_cons_zero, List.set_cons_succ]
  refine wpAnyH_take (i := 10) (oi := _) (v := _) (by simp only [List.getElem?_toArray, List.getElem?_cons_succ, List.getElem?_cons_zero]; rfl) (by kernel_rfl) (by kernel_rfl) (by kernel_rfl) (by exact fun _ _ _ h => h) (Or.inl ⟨by rfl, by intro w' hSw; (try dsimp only at hSw); first | (go_simp; done) | (go_simp; with_reducible rfl)⟩) hHeld ?_
  simp only [Act.put, List.setIfInBounds_toArray, List.set_cons_zero, List.set_cons_succ]
  refine wpAnyH_take (i := 11) (oi := _) (v := _) (by simp only [List.getElem?_toArray, List.getElem?_cons_succ, List.getElem?_cons_zero]; rfl) (by kernel_rfl) (by kernel_rfl) (by kernel_rfl) (by exact fun _ _ _ h => h) (Or.inl ⟨by rfl, by intro w' hSw; (try dsimp only at hSw); first | (go_simp; done) | (go_simp; with_reducible rfl)⟩) hHeld ?_
  simp only [Act.put, List.setIfInBounds_toArray, List.set_cons_zero, List.set_cons_succ]
  refine wpAnyH_take (i := 13) (oi := _) (v := _) (by simp only [List.getElem?_toArray, List.getElem?_cons_succ, List.getElem?_cons_zero]; rfl) (by kernel_rfl) (by kernel_rfl) (by kernel_rfl) (by exact fun _ _ _ h => h) (Or.inl ⟨by rfl, by intro w' hSw; (try dsimp only at hSw); first | (go_simp; done) | (go_simp; with_reducible rfl)⟩) hHeld ?_
  simp only [Act.put, List.setIfInBounds_toArray, List.set_cons_zero, List.set_cons_succ]
  refine wpAnyH_take (i := 14) (oi := _) (v := _) (by simp only [List.getElem?_toArray, List.getElem?_cons_succ, List.getElem?_cons_zero]; rfl) (by kernel_rfl) (by kernel_rfl) (by kernel_rfl) (by exact fun _ _ _ h => h) (Or.inl ⟨by rfl, by intro w' hSw; (try dsimp only at hSw); first | (go_simp; done) | (go_simp; with_reducible rfl)⟩) hHeld ?_
  simp only [Act.put, List.setIfInBounds_toArray, List.set_cons_zero, List.set_cons_succ]
  refine wpAnyH_ready (rs := [12]) (by kernel_rfl) (by simp) ?_
  refine AllReadyH.cons rfl (fun K hK => ?_) AllReadyH.nil
  go_simp
  go_wp2_with fail
  refine (HRI.out _ HP6.out).mono ?_
  rintro r w7 ⟨rfl, hb7⟩
  have HP7 : Hid (PI w w7 ab ver (.slice aa n ac) (.slice ba n bc) l) := HP6.out.step hb7
  refine hK.out _ _ ⟨(agg2 HP7.out.x).1, (agg2 HP7.out.x).2.1, (agg2 HP7.out.y).1, (agg2 HP7.out.y).2.1⟩ (fun hHeld => ?_)
  clear hK K hb7
  refine wpAnyH_ready (rs := [15]) (by kernel_rfl) (by simp) ?_
  refine AllReadyH.cons rfl (fun K hK => ?_) AllReadyH.nil
  go_simp
  go_wp2_with fail
  refine (HRR.out _ HP7.out).mono ?_
  rintro r w8 ⟨rfl, hb8⟩
  have HP8 : Hid (PI w w8 ab ver (.slice aa n ac) (.slice ba n bc) l) := HP7.out.step hb8
  refine hK.out _ _ ⟨(agg2 HP8.out.x).1, (agg2 HP8.out.x).2.1, (agg2 HP8.out.y).1, (agg2 HP8.out.y).2.1⟩ (fun hHeld => ?_)
  clear hK K hb8
  refine wpAnyH_take (i := 16) (oi := _) (v := _) (by simp only [List.getElem?_toArray, List.getElem?_cons_succ, List.getElem?_cons_zero]; rfl) (by kernel_rfl) (by kernel_rfl) (by kernel_rfl) (by exact fun _ _ _ h => h) (Or.inl ⟨by rfl, by intro w' hSw; (try dsimp only at hSw); first | (go_simp; done) | (go_simp; with_reducible rfl)⟩) hHeld ?_
  simp only [Act.put, List.setIfInBounds_toArray, List.set_cons_zero, List.set_cons_succ]
  refine wpAnyH_take (i := 17) (oi := _) (v := _) (by simp only [List.getElem?_toArray, List.getElem?_cons_succ, List.getElem?_cons_zero]; rfl) (by kernel_rfl) (by kernel_rfl) (by kernel_rfl) (by exact fun _ _ _ h => h) (Or.inl ⟨by rfl, by intro w' hSw; (try dsimp only at hSw); first | (go_simp; done) | (go_simp; with_reducible rfl)⟩) hHeld ?_
  simp only [Act.put, List.setIfInBounds_toArray, List.set_cons_zero, List.set_cons_succ]
  refine wpAnyH_done (by kernel_rfl) ?_ _
  clear HRI HRR HP5 HP5d HP6 HP7 hHeld x0 x1 y0 y1 hq1
  by_cases hf : f = 0
  · obtain ⟨hO, hbz⟩ := HOP.out hf
    have hev := HEV.out hf
    subst hf
    rw [hev] at hC ⊢
    obtain ⟨hlE, hwE⟩ := lstE_bd b hbz s
    have HG1 : Hid (∀ w, NibAt w → Calls Tryz.prog 12 #[.string sec, .int .i64 s] w fun r w' => ∃ v, r = .returned (.tuple #[ino (verE b s) v, errV (getE b s)]) ∧ Row w' w.heap.size v (lstE b s) ∧ Below w.heap.size w w') := fun w h => (get_any (w := w) _ _ s h hO hbz).mono fun _ _ => GetAt.got
    have HQ1 : Hid (∀ w, Calls Tryz.prog 13 #[.string sec, .int .i64 s] w fun r w' => ∃ v, r = .returned (.tuple #[ino (verE b s) v, .int .i64 (getE b s)]) ∧ RowR w' w.heap.size v (lstE b s) ∧ Below w.heap.size w w') := fun w => (getR_any (w := w) _ _ s hO hbz).mono fun _ _ => GetAtR.got
    clear hO hbz HOP HEV hev hC hwE
    have hC := fun w hE => code_any (getE b s) w hE
    generalize verE b s = ver2 at *
    generalize lstE b s = l2 at *
    generalize getE b s = e at *
    generalize errV e = ev2 at *
    obtain ⟨n2, hn2⟩ : ∃ n, l2.length = n := ⟨_, rfl⟩
    have HL2 : Hid (l2.length = n2) := hn2
    rw [hn2] at hlE
    clear hn2
    go_wp2_with fail
    refine (HG1.out _ (HN.out.below HP8.out.below)).mono ?_
    rintro r w9 ⟨v, rfl, hr9, hb9⟩
    obtain ⟨xa, xc, rfl, _⟩ := row_slice hr9
    have hx := hr9
    rw [HL2.out] at hx ⊢
    have hB9 := HP8.out.below.trans (hb9.mono HP8.out.below.size)
    have HB9 : Hid (Below w.heap.size w (w9.alloc (Obj.cells #[.int .i64 ver2, .slice xa n2 xc] 26))) := hB9.alloc hB9.size _
    have HR9 : Hid (Row (w9.alloc (Obj.cells #[.int .i64 ver2, .slice xa n2 xc] 26)) w8.heap.size (.slice xa n2 xc) l2) := World.ownsRow.alloc hx _
    have HY9 : Hid ((w9.alloc (Obj.cells #[.int .i64 ver2, .slice xa n2 xc] 26)).heap[w9.heap.size]? = some (.cells #[.int .i64 ver2, .slice xa n2 xc] 26 (0, 0))) := heap_alloc_new _ _
    clear hb9 hr9 hx hB9 HG1 HP8
    simp only [ino]
    go_wp2_with fail
    refine (HQ1.out _).mono ?_
    rintro r wa ⟨v, rfl, hra, hba⟩
    obtain ⟨ya, yc, rfl, _⟩ := row_slice hra
    rw [HL2.out] at hra ⊢
    have hBa : Below w.heap.size w wa := HB9.out.trans (hba.mono HB9.out.size)
    have HBb : Hid (Below w.heap.size w (wa.alloc (Obj.cells #[.int .i64 ver2, .slice ya n2 yc] 29))) := hBa.alloc hBa.size _
    have hRa : Row wa w8.heap.size (.slice xa n2 xc) l2 := row_below HR9.out hba (Nat.le_refl _)
    have HRb : Hid (Row (wa.alloc (Obj.cells #[.int .i64 ver2, .slice ya n2 yc] 29)) w8.heap.size (.slice xa n2 xc) l2) := World.ownsRow.alloc hRa _
    have HSb : Hid (RowR (wa.alloc (Obj.cells #[.int .i64 ver2, .slice ya n2 yc] 29)) _ (.slice ya n2 yc) l2) := World.ownsRow.alloc hra _
    have hYa : wa.heap[w9.heap.size]? = some (.cells #[.int .i64 ver2, .slice xa n2 xc] 26 (0, 0)) := (hba.block _ (lt_of_heap HY9.out)).trans HY9.out
    have hYb : (wa.alloc (Obj.cells #[.int .i64 ver2, .slice ya n2 yc] 29)).heap[w9.heap.size]? = some (.cells #[.int .i64 ver2, .slice xa n2 xc] 26 (0, 0)) := (Below.heap_alloc _ _ _ (lt_of_heap hYa)).trans hYa
    have hZb : (wa.alloc (Obj.cells #[.int .i64 ver2, .slice ya n2 yc] 29)).heap[wa.heap.size]? = some (.cells #[.int .i64 ver2, .slice ya n2 yc] 29 (0, 0)) := heap_alloc_new _ _
    have hsm := same_any (w := wa.alloc (Obj.cells #[.int .i64 ver2, .slice ya n2 yc] 29)) ver2 _ _ l2 HRb.out HSb.out (by rw [HL2.out]; omega)
    obtain ⟨a0, a1, _, _⟩ := agg2 hYb
    obtain ⟨b0, b1, _, _⟩ := agg2 hZb
    clear hba hra hBa hRa hYa hYb hZb HQ1 HB9 HR9 HY9 HSb HRb
    simp only [ino] at hsm ⊢
    go_wp2_with fail
    refine hsm.mono ?_
    rintro r wc ⟨rfl, hbc⟩
    have HBc : Hid (Below w.heap.size w wc) := HBb.out.trans (hbc.mono HBb.out.size)
    clear hbc hsm HBb a0 a1 b0 b1
    go_wp2_with fail
    refine (hC _ (HE.out.below HBc.out HE.out.lt)).mono ?_
    rintro r wd ⟨rfl, hbd⟩
    have HBd : Hid (Below w.heap.size w wd) := HBc.out.trans (hbd.mono HBc.out.size)
    clear hbd hC HBc
    go_wp2
    go_ret
    exact ⟨rfl, HBd.out⟩
  · have hne : (f == 0) = false := by simpa using hf
    clear hC HOP HEV
    go_wp2
    go_ret
    exact ⟨rfl, HP8.out.below⟩

theorem inodePuts_calls {H : Type} {enc : TypeId × Value → H} {sp : Nat → Bool} {held : Bool} {d : DataW H} {p : List MemPlace} (ver : Int) (a : Option Addr) (len cap : Nat) (s : Int) (w : World) (_ : (Lit.int .i64 ver).wf = true)
    (h : DataW.Trod enc Tryz.prog w 0 sp held 22 (.slice a len cap) d p) (_ : (Lit.int .i64 s).wf = true) (hE : ErrT w) (hn : NibAt w) :
    Calls Tryz.prog 3 #[.int .i64 ver, .slice a len cap, .int .i64 s] w fun r w' => r = .returned (.bool true) ∧ Below w.heap.size w w' := by
  obtain ⟨L, hI, _⟩ := items_of_trod h
  exact inodePuts_walk ver a len cap L s w hI hE hn

end Go.Proofs.YtadimbpgdihjlaaGreatDoor.Id
