/-
  The document's inode of a sector. No condition.
-/
import Derived.Test.YtkfphmhnaelflacGreatDoorIdG
import Derived.Laws.DeepStrings4
namespace Go.Proofs.YtkfphmhnaelflacGreatDoor.Id
open Go.ChangeShapes Go.WideShapes Go.ChangeAt Go.RowKit Go.Proofs.Fa
open Go.Proofs.YtkfphmhnaelflacGreatDoor.Le (getF)
open Go.Proofs.YtkfphmhnaelflacGreatDoor.Mk (openF refopen_any)

theorem info_extG : (Tryz.prog.info? 56).map (fun i => (i.zero, i.size, i.bytes)) = some (some (.agg #[.int .i64 0, .int .i64 0]), 2, 16) := by kernel_rfl

/-- A piece of a text. -/
theorem run_piece (b : ByteArray) (i j : Nat) (h : i ≤ j) (hj : j ≤ b.size) (W : World) : Sem.run Tryz.prog (Instr.slice 9 (.string b) (some (.int .i64 i)) (some (.int .i64 j)) none) W = .ok (.string (b.extract i j)) W := by
  rw [run_slice_string_if (P := Tryz.prog) (w := W) 9 b .i64 .i64 i j Tryz.underlying9]
  simp [h, hj]
/-- A region's append whose run is known. -/
theorem wpH_app2 {P : Program} {o : Oper} {a : Act} {w w' : World} {tm : Nat → Option Bool} {K : Act → World → Prop} {Q : Exit → Act → World → Prop} {s x : Operand} {t : TypeId} {v v2 v' : Value} (hwant : Region.wanted o tm = true)
    (ho : o.op = .call { callee := .builtin .append, args := #[s, x], argTypes := #[t, t] }) (hs : a.eval s = v) (hx : a.eval x = v2) (hr : (Builtin.append_ #[t, t] o.type #[v, v2]).run P w = .ok v' w') (hK : K (a.put o.dst v') w') :
    if Region.wanted o tm = true then Oper.wp P o a w K Q else K (a.put o.dst undef) w := by
  rw [if_pos hwant]
  unfold Oper.wp execOp
  simp only [ho, resolve, invoke, builtin, Sem.run_bind, Sem.run_pure, Result.andThen_ok, List.map_toArray, List.map_cons, List.map_nil, hs, hx, hr]
  exact hK

/-- The document's inode under way at block yb. -/
structure XI (w W : World) (yb : Nat) (ver : Int) (v : Value) (l : List Ext) : Prop where
  y : W.heap[yb]? = some (.cells #[.int .i64 ver, v] 29 (0, 0))
  res : W.heap[w.heap.size]? = some (.cells #[.int .i64 0, .slice none 0 0] 29 (0, 0))
  row : RowR W (w.heap.size + 1) v l
  below : Below w.heap.size w W
  yge : w.heap.size + 1 ≤ yb
  ne : ∀ i, v.ownBlock = some i → i ≠ yb
theorem XI.alloc {w W : World} {yb : Nat} {ver : Int} {v : Value} {l : List Ext} (h : XI w W yb ver v l) (o : Obj) : XI w (W.alloc o) yb ver v l :=
  ⟨(Below.heap_alloc _ _ _ (lt_of_heap h.y)).trans h.y, (Below.heap_alloc _ _ _ (lt_of_heap h.res)).trans h.res, World.ownsRow.alloc h.row o, h.below.alloc h.below.size o, h.yge, h.ne⟩
theorem XI.drew {w W : World} {yb : Nat} {ver : Int} {v : Value} {l : List Ext} (h : XI w W yb ver v l) : XI w W.drew yb ver v l :=
  ⟨h.y, h.res, World.ownsRow.drew h.row, h.below.drew, h.yge, h.ne⟩
theorem XI.push {w W w5 : World} {yb : Nat} {ver : Int} {v v5 : Value} {l : List Ext} {e : Ext} (h : XI w W yb ver v l)
    (hown : w5.ownsRow (w.heap.size + 1) 56 2 v5 (l.length + 1) (ecells l ++ [.int .i64 e.pos, .int .i64 e.len])) (hg : W.grownBy w5 v.ownBlock) (hnear : Near W v v5) :
    XI w (w5.setCell ⟨yb, 1, none⟩ v5) yb ver v5 (l ++ [e]) ∧ w5.heap[yb]? = some (.cells #[.int .i64 ver, v] 29 (0, 0)) := by
  have hy5 : w5.heap[yb]? = some (.cells #[.int .i64 ver, v] 29 (0, 0)) := (hg.block yb (lt_of_heap h.y) (fun e => h.ne yb e.symm rfl)).trans h.y
  have hyl := lt_of_heap h.y
  have hv5 : ∀ i, v5.ownBlock = some i → i ≠ yb := by
    intro i hi
    rcases hnear with hh | ⟨j, hh, hj⟩
    · rw [hh] at hi; exact h.ne i hi
    · rw [hh] at hi; cases hi; omega
  have hyge := h.yge
  refine ⟨⟨heap_setCell_same _ yb 1 _ _ v5 hy5, ?_, ?_, ?_, h.yge, hv5⟩, hy5⟩
  · exact (heap_setCell_other _ ⟨yb, 1, none⟩ _ _ (by show w.heap.size ≠ yb; omega)).trans ((hg.block _ (lt_of_heap h.res) (fun e => by have := row_ge h.row _ e.symm; omega)).trans h.res)
  · show World.ownsRow _ _ _ _ _ _ _
    rw [ecells_append, List.length_append]
    exact row_keep hown (fun g hgb => heap_setCell_other _ ⟨yb, 1, none⟩ _ _ (hv5 g hgb))
  · exact ((h.below.grown hg h.below.size (fun k e => by have := row_ge h.row k e; omega)).setCell (p := ⟨yb, 1, none⟩) (by show w.heap.size ≤ yb; omega) _)

variable {w : World}
set_option maxRecDepth 100000
set_option maxHeartbeats 4000000

/-- What the document's Get answers of a sound sector. -/
def GetAtR (w : World) (b : ByteArray) (s : Int) (r : Ending) (w' : World) : Prop :=
  (∃ ver' v', r = .returned (.tuple #[ino ver' v', .int .i64 (getE b s)]) ∧ (getE b s = 0 → ver' = verG b ∧ RowR w' w.heap.size v' (lstG b (cntG b))) ∧ (getE b s ≠ 0 → ver' = 0 ∧ v' = .slice none 0 0)) ∧ Below w.heap.size w w'

theorem res_getR (tm : Array Value) (rb : Nat) (W : World) (ver : Int) (a : Option Addr) (n c : Nat) (er : Value) (h4 : tm[4]? = some (.pointer (some ⟨rb, 0, none⟩))) (h5 : tm.getD 5 undef = er) (h : W.heap[rb]? = some (.cells #[.int .i64 ver, .slice a n c] 29 (0, 0))) :
    (results Tryz.f13 tm).run Tryz.prog W = .ok (.tuple #[ino ver (.slice a n c), er]) W := by
  obtain ⟨c0, c1, _⟩ := agg2 h
  clear h
  subst h5
  simp [results, Tryz.f13, go_sem, h4, c0, c1, ino]

theorem getR_any (sec b : ByteArray) (s : Int) (ho : openF 6 sec = (b, 0)) (hb : b.size = 504) :
    Calls Tryz.prog 13 #[.string sec, .int .i64 s] w fun r w' => GetAtR w b s r w' := by
  obtain ⟨i0, hi, hz0, hz1, hz2⟩ := info_parts info_extG
  obtain ⟨w0, hw0⟩ : ∃ w0, w0 = w.alloc (.cells #[.int .i64 0, .slice none 0 0] 29) := ⟨_, rfl⟩
  have HB0 : Hid (Below w.heap.size w w0) := by rw [hw0]; exact (Below.refl _ _).alloc (Nat.le_refl _) _
  have HR0 : Hid (w0.heap[w.heap.size]? = some (.cells #[.int .i64 0, .slice none 0 0] 29 (0, 0))) := by rw [hw0]; exact heap_alloc_new _ _
  have hO := refopen_any 6 sec w0
  rw [ho] at hO
  dsimp only at hO
  clear ho
  have hG1 := fun w => Le.refget_any (b.extract 0 6) w
  have HG : Hid (getE b s = if 36 < cntG b then 4 else if restG b (7 + 4 * cntG b) = true then (if rightB (verG b) (lstG b (cntG b)) s = true then 0 else 17) else 4) := rfl
  have hat := cntG_at b (by omega)
  have hcl := cntG_lt b
  have HEX : Hid (∀ i, (getF (b.extract (7 + 4 * i) (9 + 4 * i))) = (extG b i).pos ∧ getF (b.extract (9 + 4 * i) (11 + 4 * i)) = (extG b i).len) := fun i => ⟨rfl, rfl⟩
  obtain ⟨vg, hvg⟩ : ∃ x, verG b = x := ⟨_, rfl⟩
  have hvg' : getF (b.extract 0 6) = vg := hvg
  simp only [hvg'] at hG1
  rw [hvg] at HG
  obtain ⟨cn, hcn⟩ : ∃ x, cntG b = x := ⟨_, rfl⟩
  rw [hcn] at HG hat hcl
  have HVG : Hid (verG b = vg) := hvg
  have HCN : Hid (cntG b = cn) := hcn
  clear hvg hvg' hcn
  have h6 : 6 < b.size := by omega
  go_enter Tryz.func13, Tryz.ntmps13
  go_wp2_with fail
  rw [← hw0]
  refine hO.mono ?_
  rintro r w1 ⟨rfl, hb1⟩
  have HB1 : Hid (Below w.heap.size w w1) := HB0.out.trans (hb1.mono HB0.out.size)
  have HR1 : Hid (w1.heap[w.heap.size]? = some (.cells #[.int .i64 0, .slice none 0 0] 29 (0, 0))) := (hb1.block _ (lt_of_heap HR0.out)).trans HR0.out
  clear hb1 hO hw0 HB0 HR0
  go_wp2_with fail
  refine (hG1 _).mono ?_
  rintro r wq ⟨rfl, rfl⟩
  clear hG1
  by_cases hbig : 36 < cn
  · have HGE : Hid (getE b s = 4) := by show _ = _; rw [HG.out, if_pos hbig]
    have hbig' : (36 : Int) < (cn : Int) := by omega
    have hR2 : (wq.alloc (Obj.cells #[.int .i64 vg, .slice none 0 0] 29)).heap[w.heap.size]? = some (.cells #[.int .i64 0, .slice none 0 0] 29 (0, 0)) := (Below.heap_alloc _ _ _ (lt_of_heap HR1.out)).trans HR1.out
    have HR2 : Hid (_ = _) := hR2
    obtain ⟨r0, r1, f0, f1⟩ := agg2 hR2
    clear hR2
    go_wp2
    refine bodyPost_ret (res_getR _ w.heap.size _ 0 none 0 0 _ rfl rfl (set2_heap HR2.out _ _)) rfl ?_
    exact ⟨⟨0, .slice none 0 0, by rw [HGE.out]; rfl, (fun h => by rw [HGE.out] at h; cases h), fun _ => ⟨rfl, rfl⟩⟩, set2_below (HB1.out.alloc HB1.out.size _) _ (Nat.le_refl _) _ _⟩
  · have hbig' : decide ((36 : Int) < (cn : Int)) = false := decide_eq_false (by omega)
    have hXI : XI w (wq.alloc (Obj.cells #[.int .i64 vg, .slice none 0 0] 29)) wq.heap.size vg (.slice none 0 0) (lstG b 0) :=
      ⟨heap_alloc_new _ _, (Below.heap_alloc _ _ _ (lt_of_heap HR1.out)).trans HR1.out, World.ownsRow_nil _ _ _ _, HB1.out.alloc HB1.out.size _, lt_of_heap HR1.out, fun i h => (by cases h)⟩
    have HXI0 : Hid (XI w (wq.alloc (Obj.cells #[.int .i64 vg, .slice none 0 0] 29)) wq.heap.size vg (.slice none 0 0) (lstG b 0)) := hXI
    clear hXI HB1 HR1
    go_wp2_with fail
    generalize (wq.alloc (Obj.cells #[.int .i64 vg, .slice none 0 0] 29)) = w2 at *
    generalize wq.heap.size = yb at *
    go_loopw [10] (fun i wr => ∃ (k : Nat) (xa : Option Addr) (xc : Nat), k ≤ cn ∧ i = .int .i64 k ∧ XI w wr yb vg (.slice xa k xc) (lstG b k)) (fun i _ => cn - (intOf i).toNat)
    case atStart => exact ⟨0, none, 0, Nat.zero_le _, rfl, HXI0.out⟩
    case round =>
      clear HXI0
      obtain ⟨k, xa, xc, hk, rfl, hX⟩ := hrel
      have HXI : Hid (XI w wr yb vg (.slice xa k xc) (lstG b k)) := hX
      obtain ⟨x0, x1, x2, x3⟩ := agg2 hX.y
      have xe : ∀ o, (wr.alloc o).drew.cell? ⟨yb, 1, none⟩ = some (.slice xa k xc) := fun o => (World.cell?_of_block (Below.heap_alloc _ _ _ (lt_of_heap HXI.out.y))).trans x1
      have xd : wr.drew.cell? ⟨yb, 1, none⟩ = some (.slice xa k xc) := x1
      clear hX
      by_cases hlt : k < cn
      · obtain ⟨i1, hi1⟩ : ∃ i : Nat, i = 7 + 4 * k := ⟨_, rfl⟩
        obtain ⟨i2, hi2⟩ : ∃ i : Nat, i = 9 + 4 * k := ⟨_, rfl⟩
        obtain ⟨i3, hi3⟩ : ∃ i : Nat, i = 11 + 4 * k := ⟨_, rfl⟩
        have w4 : IntKind.i64.wrap (4 * (k : Int)) = 4 * k := IntWalk.i64_in _ (by omega)
        have w1' : IntKind.i64.wrap (7 + IntKind.i64.wrap (4 * (k : Int))) = (i1 : Int) := by rw [w4, hi1]; exact (IntWalk.i64_in _ (by omega)).trans (by omega)
        have w2' : IntKind.i64.wrap (9 + IntKind.i64.wrap (4 * (k : Int))) = (i2 : Int) := by rw [w4, hi2]; exact (IntWalk.i64_in _ (by omega)).trans (by omega)
        have w3' : IntKind.i64.wrap (11 + IntKind.i64.wrap (4 * (k : Int))) = (i3 : Int) := by rw [w4, hi3]; exact (IntWalk.i64_in _ (by omega)).trans (by omega)
        have b12 : i1 ≤ i2 := by omega
        have b23 : i2 ≤ i3 := by omega
        have b3 : i3 ≤ b.size := by omega
        have b2 : i2 ≤ b.size := by omega
        have hE1 := fun w => Le.refget_any (b.extract i1 i2) w
        have hE2 := fun w => Le.refget_any (b.extract i2 i3) w
        have q1 : getF (b.extract i1 i2) = (extG b k).pos := by rw [hi1, hi2]; rfl
        have q2 : getF (b.extract i2 i3) = (extG b k).len := by rw [hi2, hi3]; rfl
        simp only [q1] at hE1
        simp only [q2] at hE2
        have s1 := run_piece b i1 i2 b12 b2
        have s2 := run_piece b i2 i3 b23 b3
        clear q1 q2 w4 hi1 hi2 hi3
        obtain ⟨ex, hex⟩ : ∃ e, extG b k = e := ⟨_, rfl⟩
        have HEX2 : Hid (extG b k = ex) := hex
        simp only [hex] at hE1 hE2
        obtain ⟨ep, el⟩ := ex
        dsimp only at hE1 hE2
        clear hex
        go_wp2_with fail
        refine wp_region_held_drew (S := fun _ => True) (by kernel_rfl) (by exact True.intro) (fun hHeld => ?_)
        change wpAnyH _ _ _ _ _ 25 (Array.replicate 25 false) _ _
        refine wpAnyH_take (i := 0) (oi := _) (v := _) (by simp only [List.getElem?_toArray, List.getElem?_cons_zero]; rfl) (by kernel_rfl) (by kernel_rfl) (by kernel_rfl) (by exact fun _ _ _ h => h) (Or.inl ⟨by rfl, by intro w' hSw; (try dsimp only at hSw); first | (go_simp; done) | (go_simp; with_reducible rfl)⟩) hHeld ?_
        simp only [Act.put, List.setIfInBounds_toArray, List.set_cons_zero, List.set_cons_succ]
        refine wpAnyH_take (i := 2) (oi := _) (v := _) (by simp only [List.getElem?_toArray, List.getElem?_cons_succ, List.getElem?_cons_zero]; rfl) (by kernel_rfl) (by kernel_rfl) (by kernel_rfl) (by exact fun _ _ _ h => h) (Or.inl ⟨by rfl, by intro w' hSw; (try dsimp only at hSw); first | (go_simp; done) | (go_simp; with_reducible rfl)⟩) hHeld ?_
        simp only [Act.put, List.setIfInBounds_toArray, List.set_cons_zero, List.set_cons_succ]
        refine wpAnyH_take (i := 3) (oi := _) (v := _) (by simp only [List.getElem?_toArray, List.getElem?_cons_succ, List.getElem?_cons_zero]; rfl) (by kernel_rfl) (by kernel_rfl) (by kernel_rfl) (by exact fun _ _ _ h => h) (Or.inl ⟨by rfl, by intro w' hSw; (try dsimp only at hSw); first | (go_simp; done) | (go_simp; with_reducible rfl)⟩) hHeld ?_
        simp only [Act.put, List.setIfInBounds_toArray, List.set_cons_zero, List.set_cons_succ]
        refine wpAnyH_take (i := 4) (oi := _) (v := _) (by simp only [List.getElem?_toArray, List.getElem?_cons_succ, List.getElem?_cons_zero]; rfl) (by kernel_rfl) (by kernel_rfl) (by kernel_rfl) (by exact fun _ _ _ h => h) (Or.inl ⟨by rfl, by intro w' hSw; (try dsimp only at hSw); first | (go_simp; done) | (go_simp; with_reducible rfl)⟩) hHeld ?_
        simp only [Act.put, List.setIfInBounds_toArray, List.set_cons_zero, List.set_cons_succ]
        refine wpAnyH_take (i := 5) (oi := _) (v := _) (by simp only [List.getElem?_toArray, List.getElem?_cons_succ, List.getElem?_cons_zero]; rfl) (by kernel_rfl) (by kernel_rfl) (by kernel_rfl) (by exact fun _ _ _ h => h) (Or.inl ⟨by rfl, by intro w' hSw; (try dsimp only at hSw); first | (go_simp; done) | (go_simp; with_reducible rfl)⟩) hHeld ?_
        simp only [Act.put, List.setIfInBounds_toArray, List.set_cons_zero, List.set_cons_succ]
        refine wpAnyH_take (i := 6) (oi := _) (v := _) (by simp only [List.getElem?_toArray, List.getElem?_cons_succ, List.getElem?_cons_zero]; rfl) (by kernel_rfl) (by kernel_rfl) (by kernel_rfl) (by exact fun _ _ _ h => h) (Or.inl ⟨by rfl, by intro w' hSw; (try dsimp only at hSw); first | (go_simp; done) | (go_simp; with_reducible rfl)⟩) hHeld ?_
        simp only [Act.put, List.setIfInBounds_toArray, List.set_cons_zero, List.set_cons_succ]
        refine wpAnyH_take (i := 7) (oi := _) (v := _) (by simp only [List.getElem?_toArray, List.getElem?_cons_succ, List.getElem?_cons_zero]; rfl) (by kernel_rfl) (by kernel_rfl) (by kernel_rfl) (by exact fun _ _ _ h => h) (Or.inl ⟨by rfl, by intro w' hSw; (try dsimp only at hSw); first | (go_simp; done) | (go_simp; with_reducible rfl)⟩) hHeld ?_
        simp only [Act.put, List.setIfInBounds_toArray, List.set_cons_zero, List.set_cons_succ]
        refine wpAnyH_take (i := 8) (oi := _) (v := _) (by simp only [List.getElem?_toArray, List.getElem?_cons_succ, List.getElem?_cons_zero]; rfl) (by kernel_rfl) (by kernel_rfl) (by kernel_rfl) (by exact fun _ _ _ h => h) (Or.inl ⟨by rfl, by intro w' hSw; (try dsimp only at hSw); first | (go_simp; done) | (go_simp; with_reducible rfl)⟩) hHeld ?_
        simp only [Act.put, List.setIfInBounds_toArray, List.set_cons_zero, List.set_cons_succ]
        refine wpAnyH_take (i := 9) (oi := _) (v := _) (by simp only [List.getElem?_toArray, List.getElem?_cons_succ, List.getElem?_cons_zero]; rfl) (by kernel_rfl) (by kernel_rfl) (by kernel_rfl) (by exact fun _ _ _ h => h) (Or.inl ⟨by rfl, by intro w' hSw; (try dsimp only at hSw); first | (go_simp; done) | (go_simp; with_reducible rfl)⟩) hHeld ?_
        simp only [Act.put, List.setIfInBounds_toArray, List.set_cons_zero, List.set_cons_succ]
        refine wpAnyH_take (i := 11) (oi := _) (v := _) (by simp only [List.getElem?_toArray, List.getElem?_cons_succ, List.getElem?_cons_zero]; rfl) (by kernel_rfl) (by kernel_rfl) (by kernel_rfl) (by exact fun _ _ _ h => h) (Or.inl ⟨by rfl, by intro w' hSw; (try dsimp only at hSw); first | (go_simp; done) | (go_simp; with_reducible rfl)⟩) hHeld ?_
        simp only [Act.put, List.setIfInBounds_toArray, List.set_cons_zero, List.set_cons_succ]
        refine wpAnyH_take (i := 12) (oi := _) (v := _) (by simp only [List.getElem?_toArray, List.getElem?_cons_succ, List.getElem?_cons_zero]; rfl) (by kernel_rfl) (by kernel_rfl) (by kernel_rfl) (by exact fun _ _ _ h => h) (Or.inl ⟨by rfl, by intro w' hSw; (try dsimp only at hSw); first | (go_simp; done) | (go_simp; with_reducible rfl)⟩) hHeld ?_
        simp only [Act.put, List.setIfInBounds_toArray, List.set_cons_zero, List.set_cons_succ]
        refine wpAnyH_take (i := 13) (oi := _) (v := _) (by simp only [List.getElem?_toArray, List.getElem?_cons_succ, List.getElem?_cons_zero]; rfl) (by kernel_rfl) (by kernel_rfl) (by kernel_rfl) (by exact fun _ _ _ h => h) (Or.inl ⟨by rfl, by intro w' hSw; (try dsimp only at hSw); first | (go_simp; done) | (go_simp; with_reducible rfl)⟩) hHeld ?_
        simp only [Act.put, List.setIfInBounds_toArray, List.set_cons_zero, List.set_cons_succ]
        refine wpAnyH_take (i := 14) (oi := _) (v := _) (by simp only [List.getElem?_toArray, List.getElem?_cons_succ, List.getElem?_cons_zero]; rfl) (by kernel_rfl) (by kernel_rfl) (by kernel_rfl) (by exact fun _ _ _ h => h) (Or.inl ⟨by rfl, by intro w' hSw; (try dsimp only at hSw); first | (go_simp; done) | (go_simp; with_reducible rfl)⟩) hHeld ?_
        simp only [Act.put, List.setIfInBounds_toArray, List.set_cons_zero, List.set_cons_succ]
        refine wpAnyH_take (i := 15) (oi := _) (v := _) (by simp only [List.getElem?_toArray, List.getElem?_cons_succ, List.getElem?_cons_zero]; rfl) (by kernel_rfl) (by kernel_rfl) (by kernel_rfl) (by exact fun _ _ _ h => h) (Or.inl ⟨by rfl, by intro w' hSw; (try dsimp only at hSw); first | (go_simp; done) | (go_simp; with_reducible rfl)⟩) hHeld ?_
        simp only [Act.put, List.setIfInBounds_toArray, List.set_cons_zero, List.set_cons_succ]
        refine wpAnyH_take (i := 16) (oi := _) (v := _) (by simp only [List.getElem?_toArray, List.getElem?_cons_succ, List.getElem?_cons_zero]; rfl) (by kernel_rfl) (by kernel_rfl) (by kernel_rfl) (by exact fun _ _ _ h => h) (Or.inl ⟨by rfl, by intro w' hSw; (try dsimp only at hSw); first | (go_simp; done) | (go_simp; with_reducible rfl)⟩) hHeld ?_
        simp only [Act.put, List.setIfInBounds_toArray, List.set_cons_zero, List.set_cons_succ]
        refine wpAnyH_take (i := 17) (oi := _) (v := _) (by simp only [List.getElem?_toArray, List.getElem?_cons_succ, List.getElem?_cons_zero]; rfl) (by kernel_rfl) (by kernel_rfl) (by kernel_rfl) (by exact fun _ _ _ h => h) (Or.inl ⟨by rfl, by intro w' hSw; (try dsimp only at hSw); first | (go_simp; done) | (go_simp; with_reducible rfl)⟩) hHeld ?_
        simp only [Act.put, List.setIfInBounds_toArray, List.set_cons_zero, List.set_cons_succ]
        refine wpAnyH_take (i := 18) (oi := _) (v := _) (by simp only [List.getElem?_toArray, List.getElem?_cons_succ, List.getElem?_cons_zero]; rfl) (by kernel_rfl) (by kernel_rfl) (by kernel_rfl) (by exact fun _ _ _ h => h) (Or.inl ⟨by rfl, by intro w' hSw; (try dsimp only at hSw); first | (go_simp; done) | (go_simp; with_reducible rfl)⟩) hHeld ?_
        simp only [Act.put, List.setIfInBounds_toArray, List.set_cons_zero, List.set_cons_succ]
        refine wpAnyH_ready (rs := [1, 10]) (by kernel_rfl) (by simp) ?_
        refine (AllReadyH.cons rfl (fun K hK => ?_) (AllReadyH.cons rfl (fun K hK => ?_) AllReadyH.nil))
        · skip
          go_simp
          go_wp2_with fail
          refine hK.out _ _ True.intro (fun hHeld => ?_)
          clear hK K
          refine wpAnyH_ready (rs := [10]) (by kernel_rfl) (by simp) ?_
          refine AllReadyH.cons rfl (fun K hK => ?_) AllReadyH.nil
          go_simp
          go_wp2_with fail
          refine (hE1 _).mono ?_
          rintro r wq ⟨rfl, rfl⟩
          refine hK.out _ _ True.intro (fun hHeld => ?_)
          clear hK K
          refine wpAnyH_ready (rs := [19]) (by kernel_rfl) (by simp) ?_
          refine AllReadyH.cons rfl (fun K hK => ?_) AllReadyH.nil
          go_simp
          go_wp2_with fail
          refine (hE2 _).mono ?_
          rintro r wq ⟨rfl, rfl⟩
          refine hK.out _ _ True.intro (fun hHeld => ?_)
          clear hK K
          refine wpAnyH_take (i := 20) (oi := _) (v := _) (by simp only [List.getElem?_toArray, List.getElem?_cons_succ, List.getElem?_cons_zero]; rfl) (by kernel_rfl) (by kernel_rfl) (by kernel_rfl) (by exact fun _ _ _ h => h) (Or.inl ⟨by rfl, by intro w' hSw; (try dsimp only at hSw); first | (go_simp; done) | (go_simp; with_reducible rfl)⟩) hHeld ?_
          simp only [Act.put, List.setIfInBounds_toArray, List.set_cons_zero, List.set_cons_succ]
          refine wpAnyH_ready (rs := [21]) (by kernel_rfl) (by simp) ?_
          refine AllReadyH.cons rfl (fun K hK => ?_) AllReadyH.nil
          go_simp
          go_wp2_with fail
          obtain ⟨WA, hWA⟩ : ∃ W, W = (wr.alloc (Obj.cells #[.int .i64 ep, .int .i64 el] 56)).drew := ⟨_, rfl⟩
          rw [← hWA]
          refine hK.out _ _ True.intro (fun hHeld => ?_)
          clear hK K
          have xA : WA.cell? ⟨yb, 1, none⟩ = some (.slice xa k xc) := by rw [hWA]; exact xe _
          have HIA : Hid (XI w WA yb vg (.slice xa k xc) (lstG b k)) := by rw [hWA]; exact (HXI.out.alloc _).drew
          have hEA : WA.heap[wr.heap.size]? = some (.cells #[.int .i64 ep, .int .i64 el] 56 (0, 0)) := by rw [hWA]; exact heap_alloc_new _ _
          clear hWA
          have hsrc : ∀ j u, [Value.int .i64 ep, Value.int .i64 el][j]? = some u → WA.cell? ((⟨wr.heap.size, 0, none⟩ : Addr).add j) = some u := fun j u hu => by
            rw [show (⟨wr.heap.size, 0, none⟩ : Addr).add j = ⟨wr.heap.size, j, none⟩ by simp [Addr.add_lit]]
            exact cell_of_heap hEA j u (by simpa using hu)
          obtain ⟨v5, W5, hrun, hown5, hgrow, hnear⟩ := run_append_near (P := Tryz.prog) (w := WA) (w.heap.size + 1) 27 27 56 i0 _ 2 16 Tryz.underlying27 hi hz0 hz1 hz2 rfl (by decide) (.slice xa k xc) k (ecells (lstG b k)) (by have h := HIA.out.row; unfold RowR at h; rw [lstG_length] at h; exact h) ⟨wr.heap.size, 0, none⟩ 1 1 [.int .i64 ep, .int .i64 el] rfl hsrc (by intro u hu; simp only [List.mem_cons, List.not_mem_nil, or_false] at hu; rcases hu with rfl | rfl <;> rfl) (by unfold maxLen; omega) (by omega) (by have := HIA.out.below.size; have := lt_of_heap HIA.out.res; omega)
          refine wpAnyH_ready (rs := [22]) (by kernel_rfl) (by simp) ?_
          refine AllReadyH.cons (o := _) (by simp only [List.getElem?_toArray, List.getElem?_cons_succ, List.getElem?_cons_zero]; rfl) (fun K hK => ?_) AllReadyH.nil
          refine wpH_app2 (by rfl) rfl rfl rfl hrun ?_
          obtain ⟨a5, cap5, hv5, hm5⟩ := row_slice hown5
          subst hv5
          refine hK.out _ _ True.intro (fun hHeld => ?_)
          clear hK K
          simp only [Act.put, List.setIfInBounds_toArray, List.set_cons_zero, List.set_cons_succ]
          obtain ⟨hk1, hk2⟩ := HIA.out.push (e := ⟨ep, el⟩) (by rw [lstG_length]; exact hown5) hgrow hnear
          have HI5 : Hid (XI w (W5.setCell ⟨yb, 1, none⟩ (.slice a5 (k + 1) cap5)) yb vg (.slice a5 (k + 1) cap5) (lstG b (k + 1))) := by rw [lstG_succ, HEX2.out]; exact hk1
          obtain ⟨n0, n1, n2, n3⟩ := agg2 hk2
          clear hk1 hk2 hown5 hgrow hnear hm5 hrun
          refine wpAnyH_take (i := 23) (oi := _) (v := _) (by simp only [List.getElem?_toArray, List.getElem?_cons_succ, List.getElem?_cons_zero]; rfl) (by kernel_rfl) (by kernel_rfl) (by kernel_rfl) (by exact fun _ _ _ h => h) (Or.inl ⟨by rfl, by intro w' hSw; (try dsimp only at hSw); first | (go_simp; done) | (go_simp; with_reducible rfl)⟩) hHeld ?_
          simp only [Act.put, List.setIfInBounds_toArray, List.set_cons_zero, List.set_cons_succ]
          refine wpAnyH_ready (rs := [24]) (by kernel_rfl) (by simp) ?_
          refine AllReadyH.cons rfl (fun K hK => ?_) AllReadyH.nil
          go_simp
          go_wp2_with fail
          refine hK.out _ _ True.intro (fun hHeld => ?_)
          clear hK K
          refine wpAnyH_done (by kernel_rfl) ?_ _
          go_wp2
          go_roundw
          case rel => exact ⟨k + 1, a5, cap5, by omega, by go_num, HI5.out⟩
          case measure => simp [intOf]; omega
        · skip
          go_simp
          go_wp2_with fail
          refine (hE1 _).mono ?_
          rintro r wq ⟨rfl, rfl⟩
          refine hK.out _ _ True.intro (fun hHeld => ?_)
          clear hK K
          refine wpAnyH_ready (rs := [1, 19]) (by kernel_rfl) (by simp) ?_
          refine (AllReadyH.cons rfl (fun K hK => ?_) (AllReadyH.cons rfl (fun K hK => ?_) AllReadyH.nil))
          · skip
            go_simp
            go_wp2_with fail
            refine hK.out _ _ True.intro (fun hHeld => ?_)
            clear hK K
            refine wpAnyH_ready (rs := [19]) (by kernel_rfl) (by simp) ?_
            refine AllReadyH.cons rfl (fun K hK => ?_) AllReadyH.nil
            go_simp
            go_wp2_with fail
            refine (hE2 _).mono ?_
            rintro r wq ⟨rfl, rfl⟩
            refine hK.out _ _ True.intro (fun hHeld => ?_)
            clear hK K
            refine wpAnyH_take (i := 20) (oi := _) (v := _) (by simp only [List.getElem?_toArray, List.getElem?_cons_succ, List.getElem?_cons_zero]; rfl) (by kernel_rfl) (by kernel_rfl) (by kernel_rfl) (by exact fun _ _ _ h => h) (Or.inl ⟨by rfl, by intro w' hSw; (try dsimp only at hSw); first | (go_simp; done) | (go_simp; with_reducible rfl)⟩) hHeld ?_
            simp only [Act.put, List.setIfInBounds_toArray, List.set_cons_zero, List.set_cons_succ]
            refine wpAnyH_ready (rs := [21]) (by kernel_rfl) (by simp) ?_
            refine AllReadyH.cons rfl (fun K hK => ?_) AllReadyH.nil
            go_simp
            go_wp2_with fail
            obtain ⟨WA, hWA⟩ : ∃ W, W = (wr.alloc (Obj.cells #[.int .i64 ep, .int .i64 el] 56)).drew := ⟨_, rfl⟩
            rw [← hWA]
            refine hK.out _ _ True.intro (fun hHeld => ?_)
            clear hK K
            have xA : WA.cell? ⟨yb, 1, none⟩ = some (.slice xa k xc) := by rw [hWA]; exact xe _
            have HIA : Hid (XI w WA yb vg (.slice xa k xc) (lstG b k)) := by rw [hWA]; exact (HXI.out.alloc _).drew
            have hEA : WA.heap[wr.heap.size]? = some (.cells #[.int .i64 ep, .int .i64 el] 56 (0, 0)) := by rw [hWA]; exact heap_alloc_new _ _
            clear hWA
            have hsrc : ∀ j u, [Value.int .i64 ep, Value.int .i64 el][j]? = some u → WA.cell? ((⟨wr.heap.size, 0, none⟩ : Addr).add j) = some u := fun j u hu => by
              rw [show (⟨wr.heap.size, 0, none⟩ : Addr).add j = ⟨wr.heap.size, j, none⟩ by simp [Addr.add_lit]]
              exact cell_of_heap hEA j u (by simpa using hu)
            obtain ⟨v5, W5, hrun, hown5, hgrow, hnear⟩ := run_append_near (P := Tryz.prog) (w := WA) (w.heap.size + 1) 27 27 56 i0 _ 2 16 Tryz.underlying27 hi hz0 hz1 hz2 rfl (by decide) (.slice xa k xc) k (ecells (lstG b k)) (by have h := HIA.out.row; unfold RowR at h; rw [lstG_length] at h; exact h) ⟨wr.heap.size, 0, none⟩ 1 1 [.int .i64 ep, .int .i64 el] rfl hsrc (by intro u hu; simp only [List.mem_cons, List.not_mem_nil, or_false] at hu; rcases hu with rfl | rfl <;> rfl) (by unfold maxLen; omega) (by omega) (by have := HIA.out.below.size; have := lt_of_heap HIA.out.res; omega)
            refine wpAnyH_ready (rs := [22]) (by kernel_rfl) (by simp) ?_
            refine AllReadyH.cons (o := _) (by simp only [List.getElem?_toArray, List.getElem?_cons_succ, List.getElem?_cons_zero]; rfl) (fun K hK => ?_) AllReadyH.nil
            refine wpH_app2 (by rfl) rfl rfl rfl hrun ?_
            obtain ⟨a5, cap5, hv5, hm5⟩ := row_slice hown5
            subst hv5
            refine hK.out _ _ True.intro (fun hHeld => ?_)
            clear hK K
            simp only [Act.put, List.setIfInBounds_toArray, List.set_cons_zero, List.set_cons_succ]
            obtain ⟨hk1, hk2⟩ := HIA.out.push (e := ⟨ep, el⟩) (by rw [lstG_length]; exact hown5) hgrow hnear
            have HI5 : Hid (XI w (W5.setCell ⟨yb, 1, none⟩ (.slice a5 (k + 1) cap5)) yb vg (.slice a5 (k + 1) cap5) (lstG b (k + 1))) := by rw [lstG_succ, HEX2.out]; exact hk1
            obtain ⟨n0, n1, n2, n3⟩ := agg2 hk2
            clear hk1 hk2 hown5 hgrow hnear hm5 hrun
            refine wpAnyH_take (i := 23) (oi := _) (v := _) (by simp only [List.getElem?_toArray, List.getElem?_cons_succ, List.getElem?_cons_zero]; rfl) (by kernel_rfl) (by kernel_rfl) (by kernel_rfl) (by exact fun _ _ _ h => h) (Or.inl ⟨by rfl, by intro w' hSw; (try dsimp only at hSw); first | (go_simp; done) | (go_simp; with_reducible rfl)⟩) hHeld ?_
            simp only [Act.put, List.setIfInBounds_toArray, List.set_cons_zero, List.set_cons_succ]
            refine wpAnyH_ready (rs := [24]) (by kernel_rfl) (by simp) ?_
            refine AllReadyH.cons rfl (fun K hK => ?_) AllReadyH.nil
            go_simp
            go_wp2_with fail
            refine hK.out _ _ True.intro (fun hHeld => ?_)
            clear hK K
            refine wpAnyH_done (by kernel_rfl) ?_ _
            go_wp2
            go_roundw
            case rel => exact ⟨k + 1, a5, cap5, by omega, by go_num, HI5.out⟩
            case measure => simp [intOf]; omega
          · skip
            go_simp
            go_wp2_with fail
            refine (hE2 _).mono ?_
            rintro r wq ⟨rfl, rfl⟩
            refine hK.out _ _ True.intro (fun hHeld => ?_)
            clear hK K
            refine wpAnyH_take (i := 20) (oi := _) (v := _) (by simp only [List.getElem?_toArray, List.getElem?_cons_succ, List.getElem?_cons_zero]; rfl) (by kernel_rfl) (by kernel_rfl) (by kernel_rfl) (by exact fun _ _ _ h => h) (Or.inl ⟨by rfl, by intro w' hSw; (try dsimp only at hSw); first | (go_simp; done) | (go_simp; with_reducible rfl)⟩) hHeld ?_
            simp only [Act.put, List.setIfInBounds_toArray, List.set_cons_zero, List.set_cons_succ]
            refine wpAnyH_ready (rs := [1, 21]) (by kernel_rfl) (by simp) ?_
            refine (AllReadyH.cons rfl (fun K hK => ?_) (AllReadyH.cons rfl (fun K hK => ?_) AllReadyH.nil))
            · skip
              go_simp
              go_wp2_with fail
              refine hK.out _ _ True.intro (fun hHeld => ?_)
              clear hK K
              refine wpAnyH_ready (rs := [21]) (by kernel_rfl) (by simp) ?_
              refine AllReadyH.cons rfl (fun K hK => ?_) AllReadyH.nil
              go_simp
              go_wp2_with fail
              obtain ⟨WA, hWA⟩ : ∃ W, W = (wr.alloc (Obj.cells #[.int .i64 ep, .int .i64 el] 56)).drew := ⟨_, rfl⟩
              rw [← hWA]
              refine hK.out _ _ True.intro (fun hHeld => ?_)
              clear hK K
              have xA : WA.cell? ⟨yb, 1, none⟩ = some (.slice xa k xc) := by rw [hWA]; exact xe _
              have HIA : Hid (XI w WA yb vg (.slice xa k xc) (lstG b k)) := by rw [hWA]; exact (HXI.out.alloc _).drew
              have hEA : WA.heap[wr.heap.size]? = some (.cells #[.int .i64 ep, .int .i64 el] 56 (0, 0)) := by rw [hWA]; exact heap_alloc_new _ _
              clear hWA
              have hsrc : ∀ j u, [Value.int .i64 ep, Value.int .i64 el][j]? = some u → WA.cell? ((⟨wr.heap.size, 0, none⟩ : Addr).add j) = some u := fun j u hu => by
                rw [show (⟨wr.heap.size, 0, none⟩ : Addr).add j = ⟨wr.heap.size, j, none⟩ by simp [Addr.add_lit]]
                exact cell_of_heap hEA j u (by simpa using hu)
              obtain ⟨v5, W5, hrun, hown5, hgrow, hnear⟩ := run_append_near (P := Tryz.prog) (w := WA) (w.heap.size + 1) 27 27 56 i0 _ 2 16 Tryz.underlying27 hi hz0 hz1 hz2 rfl (by decide) (.slice xa k xc) k (ecells (lstG b k)) (by have h := HIA.out.row; unfold RowR at h; rw [lstG_length] at h; exact h) ⟨wr.heap.size, 0, none⟩ 1 1 [.int .i64 ep, .int .i64 el] rfl hsrc (by intro u hu; simp only [List.mem_cons, List.not_mem_nil, or_false] at hu; rcases hu with rfl | rfl <;> rfl) (by unfold maxLen; omega) (by omega) (by have := HIA.out.below.size; have := lt_of_heap HIA.out.res; omega)
              refine wpAnyH_ready (rs := [22]) (by kernel_rfl) (by simp) ?_
              refine AllReadyH.cons (o := _) (by simp only [List.getElem?_toArray, List.getElem?_cons_succ, List.getElem?_cons_zero]; rfl) (fun K hK => ?_) AllReadyH.nil
              refine wpH_app2 (by rfl) rfl rfl rfl hrun ?_
              obtain ⟨a5, cap5, hv5, hm5⟩ := row_slice hown5
              subst hv5
              refine hK.out _ _ True.intro (fun hHeld => ?_)
              clear hK K
              simp only [Act.put, List.setIfInBounds_toArray, List.set_cons_zero, List.set_cons_succ]
              obtain ⟨hk1, hk2⟩ := HIA.out.push (e := ⟨ep, el⟩) (by rw [lstG_length]; exact hown5) hgrow hnear
              have HI5 : Hid (XI w (W5.setCell ⟨yb, 1, none⟩ (.slice a5 (k + 1) cap5)) yb vg (.slice a5 (k + 1) cap5) (lstG b (k + 1))) := by rw [lstG_succ, HEX2.out]; exact hk1
              obtain ⟨n0, n1, n2, n3⟩ := agg2 hk2
              clear hk1 hk2 hown5 hgrow hnear hm5 hrun
              refine wpAnyH_take (i := 23) (oi := _) (v := _) (by simp only [List.getElem?_toArray, List.getElem?_cons_succ, List.getElem?_cons_zero]; rfl) (by kernel_rfl) (by kernel_rfl) (by kernel_rfl) (by exact fun _ _ _ h => h) (Or.inl ⟨by rfl, by intro w' hSw; (try dsimp only at hSw); first | (go_simp; done) | (go_simp; with_reducible rfl)⟩) hHeld ?_
              simp only [Act.put, List.setIfInBounds_toArray, List.set_cons_zero, List.set_cons_succ]
              refine wpAnyH_ready (rs := [24]) (by kernel_rfl) (by simp) ?_
              refine AllReadyH.cons rfl (fun K hK => ?_) AllReadyH.nil
              go_simp
              go_wp2_with fail
              refine hK.out _ _ True.intro (fun hHeld => ?_)
              clear hK K
              refine wpAnyH_done (by kernel_rfl) ?_ _
              go_wp2
              go_roundw
              case rel => exact ⟨k + 1, a5, cap5, by omega, by go_num, HI5.out⟩
              case measure => simp [intOf]; omega
            · skip
              go_simp
              go_wp2_with fail
              obtain ⟨WA, hWA⟩ : ∃ W, W = (wr.alloc (Obj.cells #[.int .i64 ep, .int .i64 el] 56)).drew := ⟨_, rfl⟩
              rw [← hWA]
              refine hK.out _ _ True.intro (fun hHeld => ?_)
              clear hK K
              have xA : WA.cell? ⟨yb, 1, none⟩ = some (.slice xa k xc) := by rw [hWA]; exact xe _
              have HIA : Hid (XI w WA yb vg (.slice xa k xc) (lstG b k)) := by rw [hWA]; exact (HXI.out.alloc _).drew
              have hEA : WA.heap[wr.heap.size]? = some (.cells #[.int .i64 ep, .int .i64 el] 56 (0, 0)) := by rw [hWA]; exact heap_alloc_new _ _
              clear hWA
              refine wpAnyH_ready (rs := [1]) (by kernel_rfl) (by simp) ?_
              refine AllReadyH.cons rfl (fun K hK => ?_) AllReadyH.nil
              go_simp
              go_wp2_with fail
              refine hK.out _ _ True.intro (fun hHeld => ?_)
              clear hK K
              have hsrc : ∀ j u, [Value.int .i64 ep, Value.int .i64 el][j]? = some u → WA.cell? ((⟨wr.heap.size, 0, none⟩ : Addr).add j) = some u := fun j u hu => by
                rw [show (⟨wr.heap.size, 0, none⟩ : Addr).add j = ⟨wr.heap.size, j, none⟩ by simp [Addr.add_lit]]
                exact cell_of_heap hEA j u (by simpa using hu)
              obtain ⟨v5, W5, hrun, hown5, hgrow, hnear⟩ := run_append_near (P := Tryz.prog) (w := WA) (w.heap.size + 1) 27 27 56 i0 _ 2 16 Tryz.underlying27 hi hz0 hz1 hz2 rfl (by decide) (.slice xa k xc) k (ecells (lstG b k)) (by have h := HIA.out.row; unfold RowR at h; rw [lstG_length] at h; exact h) ⟨wr.heap.size, 0, none⟩ 1 1 [.int .i64 ep, .int .i64 el] rfl hsrc (by intro u hu; simp only [List.mem_cons, List.not_mem_nil, or_false] at hu; rcases hu with rfl | rfl <;> rfl) (by unfold maxLen; omega) (by omega) (by have := HIA.out.below.size; have := lt_of_heap HIA.out.res; omega)
              refine wpAnyH_ready (rs := [22]) (by kernel_rfl) (by simp) ?_
              refine AllReadyH.cons (o := _) (by simp only [List.getElem?_toArray, List.getElem?_cons_succ, List.getElem?_cons_zero]; rfl) (fun K hK => ?_) AllReadyH.nil
              refine wpH_app2 (by rfl) rfl rfl rfl hrun ?_
              obtain ⟨a5, cap5, hv5, hm5⟩ := row_slice hown5
              subst hv5
              refine hK.out _ _ True.intro (fun hHeld => ?_)
              clear hK K
              simp only [Act.put, List.setIfInBounds_toArray, List.set_cons_zero, List.set_cons_succ]
              obtain ⟨hk1, hk2⟩ := HIA.out.push (e := ⟨ep, el⟩) (by rw [lstG_length]; exact hown5) hgrow hnear
              have HI5 : Hid (XI w (W5.setCell ⟨yb, 1, none⟩ (.slice a5 (k + 1) cap5)) yb vg (.slice a5 (k + 1) cap5) (lstG b (k + 1))) := by rw [lstG_succ, HEX2.out]; exact hk1
              obtain ⟨n0, n1, n2, n3⟩ := agg2 hk2
              clear hk1 hk2 hown5 hgrow hnear hm5 hrun
              refine wpAnyH_take (i := 23) (oi := _) (v := _) (by simp only [List.getElem?_toArray, List.getElem?_cons_succ, List.getElem?_cons_zero]; rfl) (by kernel_rfl) (by kernel_rfl) (by kernel_rfl) (by exact fun _ _ _ h => h) (Or.inl ⟨by rfl, by intro w' hSw; (try dsimp only at hSw); first | (go_simp; done) | (go_simp; with_reducible rfl)⟩) hHeld ?_
              simp only [Act.put, List.setIfInBounds_toArray, List.set_cons_zero, List.set_cons_succ]
              refine wpAnyH_ready (rs := [24]) (by kernel_rfl) (by simp) ?_
              refine AllReadyH.cons rfl (fun K hK => ?_) AllReadyH.nil
              go_simp
              go_wp2_with fail
              refine hK.out _ _ True.intro (fun hHeld => ?_)
              clear hK K
              refine wpAnyH_done (by kernel_rfl) ?_ _
              go_wp2
              go_roundw
              case rel => exact ⟨k + 1, a5, cap5, by omega, by go_num, HI5.out⟩
              case measure => simp [intOf]; omega
      · obtain rfl : k = cn := by omega
        clear x0 x1 x2 x3 xe xd
        go_wp2_with fail
        go_loopw [11] (fun i wq => ∃ j : Nat, 7 + 4 * k ≤ j ∧ j ≤ 504 ∧ i = .int .i64 j ∧ (∀ q (hq : q < b.size), 7 + 4 * k ≤ q → q < j → b[q] = 0) ∧ XI w wq yb vg (.slice xa k xc) (lstG b k)) (fun i _ => 504 - (intOf i).toNat)
        case atStart => exact ⟨7 + 4 * k, by omega, by omega, by go_num, fun q _ h4 h => absurd h (by omega), HXI.out⟩
        case round =>
          clear HXI
          obtain ⟨j, hj0, hj1, rfl, hz, hX⟩ := hrel
          have HZ : Hid (∀ q (hq : q < b.size), 7 + 4 * k ≤ q → q < j → b[q] = 0) := hz
          have HXI : Hid (XI w wr yb vg (.slice xa k xc) (lstG b k)) := hX
          clear hz hX
          by_cases hjl : j < 504
          · have hjb : j < b.size := by omega
            by_cases h0 : b[j] = 0
            · have q1 : (((b[j].toNat : Nat) : Int) != 0) = false := by rw [h0]; rfl
              have HZ2 : Hid (∀ q (hq : q < b.size), 7 + 4 * k ≤ q → q < j + 1 → b[q] = 0) := fun q hq h4q hqk => by
                by_cases e : q < j
                · exact HZ.out q hq h4q e
                · obtain rfl : q = j := by omega
                  exact h0
              clear h0 HZ
              go_wp2
              go_roundw
              case rel => exact ⟨j + 1, by omega, by omega, by go_num, HZ2.out, HXI.out⟩
              case measure => simp [intOf]; omega
            · have q1 : (((b[j].toNat : Nat) : Int) != 0) = true := by
                rw [bne_iff_ne]; intro e; exact h0 (UInt8.toNat_inj.1 (by simpa using e))
              have HGE : Hid (getE b s = 4) := by show _ = _; rw [HG.out, if_neg hbig, rest_no b (7 + 4 * k) j hjb hj0 h0, if_neg (by decide)]
              clear h0 HG
              obtain ⟨r0, r1, f0, f1⟩ := agg2 HXI.out.res
              go_wp2
              refine bodyPost_ret (res_getR _ w.heap.size _ 0 none 0 0 _ rfl rfl (set2_heap HXI.out.res _ _)) rfl ?_
              exact ⟨⟨0, .slice none 0 0, by rw [HGE.out]; rfl, (fun h => by rw [HGE.out] at h; cases h), fun _ => ⟨rfl, rfl⟩⟩, set2_below HXI.out.below _ (Nat.le_refl _) _ _⟩
          · have HZ3 : Hid (restG b (7 + 4 * k) = true) := rest_yes b (7 + 4 * k) (fun q hq h4q => HZ.out q hq h4q (by omega))
            have HG2 : Hid (getE b s = if rightB vg (lstG b k) s = true then 0 else 17) := by show _ = _; rw [HG.out, if_neg hbig, if_pos HZ3.out]
            have h504 : j = 504 := by omega
            subst h504
            clear HG HZ HZ3
            have hR := refrightX_any (w := wr) (B := w.heap.size + 1) vg (.slice xa k xc) (lstG b k) s HXI.out.row (by rw [lstG_length]; omega)
            obtain ⟨x0, x1, x2, x3⟩ := agg2 HXI.out.y
            cases hrt : rightB vg (lstG b k) s
            · rw [hrt] at hR
              have HGE : Hid (getE b s = 17) := by show _ = _; rw [HG2.out, hrt, if_neg (by decide)]
              clear hrt HG2
              go_wp2_with fail
              refine hR.mono ?_
              rintro r w7 ⟨rfl, hb7⟩
              have HR7 : Hid (w7.heap[w.heap.size]? = some (.cells #[.int .i64 0, .slice none 0 0] 29 (0, 0))) := (hb7.block _ (lt_of_heap HXI.out.res)).trans HXI.out.res
              have HB7 : Hid (Below w.heap.size w w7) := HXI.out.below.trans (hb7.mono HXI.out.below.size)
              clear hb7 hR
              obtain ⟨r0, r1, f0, f1⟩ := agg2 HR7.out
              go_wp2
              refine bodyPost_ret (res_getR _ w.heap.size _ 0 none 0 0 _ rfl rfl (set2_heap HR7.out _ _)) rfl ?_
              exact ⟨⟨0, .slice none 0 0, by rw [HGE.out]; rfl, (fun h => by rw [HGE.out] at h; cases h), fun _ => ⟨rfl, rfl⟩⟩, set2_below HB7.out _ (Nat.le_refl _) _ _⟩
            · rw [hrt] at hR
              have HGE : Hid (getE b s = 0) := by show _ = _; rw [HG2.out, hrt, if_pos rfl]
              clear hrt HG2
              go_wp2_with fail
              refine hR.mono ?_
              rintro r w7 ⟨rfl, hb7⟩
              have HR7 : Hid (w7.heap[w.heap.size]? = some (.cells #[.int .i64 0, .slice none 0 0] 29 (0, 0))) := (hb7.block _ (lt_of_heap HXI.out.res)).trans HXI.out.res
              have HY7 : Hid (w7.heap[yb]? = some (.cells #[.int .i64 vg, .slice xa k xc] 29 (0, 0))) := (hb7.block _ (lt_of_heap HXI.out.y)).trans HXI.out.y
              have HB7 : Hid (Below w.heap.size w w7) := HXI.out.below.trans (hb7.mono HXI.out.below.size)
              have HW7 : Hid (RowR w7 (w.heap.size + 1) (.slice xa k xc) (lstG b k)) := row_below HXI.out.row hb7 (Nat.le_refl _)
              clear hb7 hR x0 x1 x2 x3
              obtain ⟨x0, x1, x2, x3⟩ := agg2 HY7.out
              obtain ⟨r0, r1, f0, f1⟩ := agg2 HR7.out
              go_wp2
              refine bodyPost_ret (res_getR _ w.heap.size _ vg xa k xc _ rfl rfl (set2_heap HR7.out _ _)) rfl ?_
              refine ⟨⟨vg, .slice xa k xc, by rw [HGE.out]; rfl, fun _ => ⟨HVG.out.symm, ?_⟩, fun h => absurd HGE.out h⟩, set2_below HB7.out _ (Nat.le_refl _) _ _⟩
              rw [HCN.out]
              exact row_base (row_keep HW7.out (fun g e => set2_other (by have := row_ge HW7.out g e; omega) _ _)) (by omega)

end Go.Proofs.YtkfphmhnaelflacGreatDoor.Id
