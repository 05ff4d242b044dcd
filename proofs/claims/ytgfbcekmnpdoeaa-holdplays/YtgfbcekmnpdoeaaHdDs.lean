/-
  Somebody leaves: what is free of the drops of string. No condition.
-/
import Derived.Test.YtgfbcekmnpdoeaaHdCs
namespace Go.Proofs.Ytgfbcekmnpdoeaa.Hds
open Go.ChangeShapes Go.WideShapes Go.ChangeAt Go.RowKit Go.Proofs.Fa Go.Proofs.Ytgfbcekmnpdoeaa.Hd
open Go.Proofs.Ytgfbcekmnpdoeaa.Nv (Turn Grow lt_of_heap lt_of_cell cell_of_heap free_of_heap icells scells icells_one scells_one)

/-- The search for the eldest, under way. -/
structure LeaveAt (w wr : World) (S : Nat → Prop) (b : Nat) (s : HS ByteArray) (mv hv : Value) (t e : Int) : Prop where
  main : wr.heap[b]? = some (.cells #[.int .i64 s.last, mv, .int .i64 e, hv] 75 (0, 0))
  box : wr.heap[w.heap.size]? = some (.cells #[.pointer (some ⟨b, 0, none⟩)] 101 (0, 0))
  mp : MapIs wr mv (strike s.m t) s.last.toNat
  row : DRow wr hv s.l
  turn : Turn S w wr
  e0 : 0 ≤ e
  eB : e ≤ s.last + 1
  el : ∀ x ∈ strike s.m t, e ≤ x

variable {w : World} {S : Nat → Prop} {b : Nat} {s : HS ByteArray} {mv hv : Value}

theorem LeaveAt.below {wr w' : World} {t e : Int} (h : LeaveAt w wr S b s mv hv t e) (hb : Below wr.heap.size wr w') : LeaveAt w w' S b s mv hv t e :=
  ⟨(hb.block _ (lt_of_heap h.main)).trans h.main, (hb.block _ (lt_of_heap h.box)).trans h.box, h.mp.keep (fun g hg => hb.block g (h.mp.lt g hg)), ORow.below h.row hb (Nat.le_refl _), h.turn.trans (Turn.of_below hb), h.e0, h.eB, h.el⟩
theorem blk_ne {w : World} {mv : Value} {m : List Int} {n b : Nat} {cs : Array Value} {ty : TypeId} (h : MapIs w mv m n) (hm : w.heap[b]? = some (.cells cs ty (0, 0))) (g : Nat) (hg : blk mv = some g) : g ≠ b := by
  rintro rfl
  obtain ⟨es, c, hh⟩ := h.map g hg
  rw [hm] at hh
  cases hh
theorem row_ne {w : World} {l : List (ByteArray × Int)} {b : Nat} {cs : Array Value} (h : DRow w hv l) (hm : w.heap[b]? = some (.cells cs 75 (0, 0))) (g : Nat) (hg : hv.ownBlock = some g) : g ≠ b := by
  rintro rfl
  obtain ⟨c, hh⟩ := ORow.type h g hg
  rw [hm] at hh
  injection hh with hh
  injection hh with _ hh
  exact absurd hh (by decide)
theorem row_ne2 {w : World} {l : List (ByteArray × Int)} {b : Nat} {cs : Array Value} (h : DRow w hv l) (hm : w.heap[b]? = some (.cells cs 101 (0, 0))) (g : Nat) (hg : hv.ownBlock = some g) : g ≠ b := by
  rintro rfl
  obtain ⟨c, hh⟩ := ORow.type h g hg
  rw [hm] at hh
  injection hh with hh
  injection hh with _ hh
  exact absurd hh (by decide)
theorem LeaveAt.step {wr : World} {t e : Int} (h : LeaveAt w wr S b s mv hv t e) (hl : e ≤ s.last) (hn : e ∉ strike s.m t) (hS : S b) (hb : b < w.heap.size) : LeaveAt w (wr.setCell ⟨b, 2, none⟩ (.int .i64 (e + 1))) S b s mv hv t (e + 1) :=
  ⟨heap_setCell_same wr b 2 _ _ _ h.main, (heap_setCell_other wr ⟨b, 2, none⟩ _ _ (by show w.heap.size ≠ b; omega)).trans h.box,
    h.mp.keep (fun g hg => heap_setCell_other wr ⟨b, 2, none⟩ g _ (blk_ne h.mp h.main g hg)), ORow.keep h.row (fun g hg => heap_setCell_other wr ⟨b, 2, none⟩ g _ (row_ne h.row h.main g hg)),
    h.turn.setCell b 2 _ (.inl hS), by have := h.e0; omega, by omega, fun x hx => by
      have h1 := h.el x hx
      have h2 : x ≠ e := fun e' => hn (e' ▸ hx)
      omega⟩

theorem TRow.base {w : World} {B B' : Nat} {v : Value} {l : List ByteArray} (h : TRow w B v l) (hB : B' ≤ B) : TRow w B' v l := by
  refine ⟨h.1, ?_⟩
  rcases h.2 with hn | ⟨g, cap, cur, rfl, hb, rest⟩
  · exact .inl hn
  · exact .inr ⟨g, cap, cur, rfl, Nat.le_trans hB hb, rest⟩
theorem TRow.ge {w : World} {B : Nat} {v : Value} {l : List ByteArray} (h : TRow w B v l) (g : Nat) (hg : v.ownBlock = some g) : B ≤ g := by
  rcases h.2 with ⟨rfl, _⟩ | ⟨g', cap, cur, rfl, hb, _⟩
  · cases hg
  · cases hg; exact hb
theorem TRow.lt {w : World} {B : Nat} {v : Value} {l : List ByteArray} (h : TRow w B v l) (g : Nat) (hg : v.ownBlock = some g) : g < w.heap.size := by
  rcases h.2 with ⟨rfl, _⟩ | ⟨g', cap, cur, rfl, hb, hh, _⟩
  · cases hg
  · cases hg; exact lt_of_heap hh
theorem TRow.keep {w w' : World} {B : Nat} {v : Value} {l : List ByteArray} (h : TRow w B v l) (hk : ∀ g, v.ownBlock = some g → w'.heap[g]? = w.heap[g]?) : TRow w' B v l := by
  refine ⟨h.1, ?_⟩
  rcases h.2 with hn | ⟨g, cap, cur, rfl, hb, hg, rest⟩
  · exact .inl hn
  · exact .inr ⟨g, cap, cur, rfl, hb, (hk g rfl).trans hg, rest⟩
theorem TRow.slice {w : World} {B : Nat} {v : Value} {l : List ByteArray} (h : TRow w B v l) : ∃ a cap, v = .slice a l.length cap := by
  rcases h.2 with ⟨rfl, h0⟩ | ⟨g, cap, cur, rfl, _⟩
  · exact ⟨none, 0, by rw [h0]⟩
  · exact ⟨_, _, rfl⟩
theorem DRow.pre {w : World} {g off n cap : Nat} {l : List (ByteArray × Int)} (h : DRow w (.slice (some ⟨g, off, none⟩) n cap) l) (hn : n = l.length) (k : Nat) (hk : k ≤ l.length) : DRow w (.slice (some ⟨g, off, none⟩) k cap) (l.take k) := by
  subst hn
  have := ORow.pre h k hk
  rw [dcells_take] at this
  unfold DRow
  rw [List.length_take, Nat.min_eq_left hk]
  exact this

/-- What is left of the drops, whatever address the slice of none has. -/
theorem DRow.rest {w : World} {g off n cap k : Nat} {l : List (ByteArray × Int)} (h : ORow w 104 (.slice (some ⟨g, off + k * 2, none⟩) (n - k) (cap - k)) (n - k) ((dcells l).drop (k * 2))) (hn : n = l.length) (hk : k ≤ l.length) (hc : l.length ≤ cap) :
    DRow w (.slice (if cap = k then some ⟨g, off, none⟩ else some ⟨g, off + k * 2, none⟩) (n - k) (cap - k)) (l.drop k) := by
  subst hn
  unfold DRow
  rw [List.length_drop, ← dcells_drop]
  by_cases hck : cap = k
  · subst hck
    rw [if_pos rfl]
    refine ⟨h.1, ?_⟩
    rcases h.2 with ⟨h0, _⟩ | ⟨g', off', cap', cur, he, hg, h1, h2, h3, h4⟩
    · cases h0
    · cases he
      refine .inr ⟨_, off, _, cur, rfl, hg, h1, h2, by omega, ?_⟩
      rw [← h4]
      simp [show l.length - cap = 0 by omega]
  · rw [if_neg hck]
    exact h

theorem clear_none (w : World) (ty : TypeId) : (Builtin.clear_ #[73] ty #[.slice none 0 0]).run Try.prog w = .ok (.tuple #[]) w := by
  simp [Builtin.clear_, run_underlying Try.underlying73]
theorem zeroD (w : World) : (zeroValue 104).run Try.prog w = .ok (.agg #[.string ⟨#[]⟩, .int .i64 0]) w := by kernel_rfl

/-- The holds when somebody has left. -/
theorem leave_fin {w6 : World} {t e : Int} {k : Nat} {hv' : Value} (hm6 : w6.heap[b]? = some (.cells #[.int .i64 s.last, mv, .int .i64 e, hv] 75 (0, 0))) (hp6 : MapIs w6 mv (strike s.m t) s.last.toNat) (hr6 : DRow w6 hv' (s.l.drop k)) (ht6 : Turn S w w6)
    (hvb : ∀ g, hv'.ownBlock = some g → S g ∧ g ≠ b) (hlo : lo (strike s.m t) s.last = e) (hfn : freeN s.l e = k) (h : HoldIn w S b s mv hv) :
    HoldIn (w6.setCell ⟨b, 3, none⟩ hv').drew S b (leaveF s t) mv hv' ∧ Turn S w (w6.setCell ⟨b, 3, none⟩ hv').drew := by
  have ht7 : Turn S w (w6.setCell ⟨b, 3, none⟩ hv').drew := (ht6.setCell b 3 _ (.inl h.sb)).drew
  refine ⟨⟨?_, hp6.keep (fun g hg => heap_setCell_other w6 ⟨b, 3, none⟩ g _ (h.ne_m g hg)), ?_, h.ok.leave t, h.sb, h.sm, fun g hg => (hvb g hg).1, fun k hk => Nat.lt_of_lt_of_le (h.lt k hk) ht7.size⟩, ht7⟩
  · have := heap_setCell_same w6 b 3 _ _ hv' hm6
    have e1 : (leaveF s t).eld = e := hlo
    rw [e1]
    exact this
  · show DRow _ hv' (s.l.drop (freeN s.l (lo (strike s.m t) s.last)))
    rw [hlo, hfn]
    exact ORow.keep hr6 (fun g hg => heap_setCell_other w6 ⟨b, 3, none⟩ g _ (hvb g hg).2)

set_option maxRecDepth 100000
set_option maxHeartbeats 16000000

theorem leave_any (h : HoldIn w S b s mv hv) (t : Int) (ht : -9223372036854775808 ≤ t ∧ t ≤ 9223372036854775807) :
    Calls Try.prog 37 #[.pointer (some ⟨b, 0, none⟩), .int .i64 t] w fun e w' => (∃ v' hv', e = .returned v' ∧ TRow w' w.heap.size v' (leaveL s t) ∧ HoldIn w' S b (leaveF s t) mv hv') ∧ Turn S w w' := by
  have HD : Hid (HoldIn w S b s mv hv) := h
  have hmf : ∀ (fn : Fn) (first cap : Array Value) (w : World), (Instr.makeFunc fn first cap).run Try.prog w = .ok (.func fn first cap) w := fun _ _ _ _ => rfl
  have hbw := lt_of_heap h.main
  obtain ⟨w1, hw1⟩ : ∃ w1, w1 = w.alloc (Obj.cells #[.pointer (some ⟨b, 0, none⟩)] 101) := ⟨_, rfl⟩
  have hb1 : Below w.heap.size w w1 := by rw [hw1]; exact (Below.refl _ _).alloc (Nat.le_refl _) _
  have hx1 : w1.heap[w.heap.size]? = some (.cells #[.pointer (some ⟨b, 0, none⟩)] 101 (0, 0)) := by rw [hw1]; exact heap_alloc_new w _
  have h1 := h.below hb1
  obtain ⟨w2, hdel, hmp2, hg2, hs2⟩ := h1.mp.del h.ok.asc t ht
  have hm2 : w2.heap[b]? = some (.cells #[.int .i64 s.last, mv, .int .i64 s.eld, hv] 75 (0, 0)) := (hg2.block b (lt_of_heap h1.main) (fun e => h1.ne_m b e.symm rfl)).trans h1.main
  have hx2 : w2.heap[w.heap.size]? = some (.cells #[.pointer (some ⟨b, 0, none⟩)] 101 (0, 0)) := (hg2.block _ (lt_of_heap hx1) (fun e => by have := h.mp.lt _ e.symm; omega)).trans hx1
  have HL : Hid (LeaveAt w w2 S b s mv hv t s.eld) := ⟨hm2, hx2, hmp2, ORow.keep h1.row (fun g hg => hg2.block g (ORow.lt h1.row g hg) (fun e => h1.ne_mr g e.symm hg)), (Turn.of_below hb1).trans (Turn.grown hg2 (fun g e => .inl (h.sm g e))), h.ok.eld0, h.ok.eldB, fun x hx => (h.ok.inn x (mem_strike.1 hx).1).1⟩
  have c1 := cell_of_heap h.main 1 _ rfl
  rw [hw1] at hdel
  have HOK : Hid (Ok s) := h.ok
  clear h h1 hmp2 hg2 hs2 hm2 hx2 hb1 hx1 hw1
  go_enter Try.func37, Try.ntmps37
  go_wp2_with fail
  clear hdel
  go_loopw [15] (fun _ wr => ∃ e : Int, LeaveAt w wr S b s mv hv t e) (fun _ wr => (s.last + 1 - intOf ((wr.cell? ⟨b, 2, none⟩).getD undef)).toNat)
  case atStart => exact ⟨_, HL.out⟩
  case round =>
    obtain ⟨e, hh⟩ := hrel
    have HH : Hid (LeaveAt w wr S b s mv hv t e) := hh
    have x0 := cell_of_heap hh.box 0 _ rfl
    have y2 := cell_of_heap hh.main 2 _ rfl
    have y0 := cell_of_heap hh.main 0 _ rfl
    have f2 := free_of_heap hh.main 2
    have HMU : Hid (intOf ((wr.cell? ⟨b, 2, none⟩).getD undef) = e) := by show _ = _; rw [y2]; rfl
    have he0 := hh.e0
    have heB := hh.eB
    have hlB := HOK.out.lastB
    clear hh
    by_cases hle : e ≤ s.last
    · have hq : decide (e ≤ s.last) = true := decide_eq_true hle
      have HM := inside_any (w := wr.drew) mv (strike s.m t) s.last.toNat b e (cell_of_heap HH.out.main 1 _ rfl) HH.out.mp (by omega)
      by_cases hin : e ∈ strike s.m t
      · rw [decide_eq_true hin] at HM
        have HLO : Hid (lo (strike s.m t) s.last = e) := lo_eq (strike_asc t HOK.out.asc) (fun x hx => ⟨HH.out.el x hx, (HOK.out.inn x (mem_strike.1 hx).1).2.2⟩) (.inl hin)
        go_wp2_with fail
        refine wp_region_held_drew (S := fun W => W.cell? ⟨w.heap.size, 0, none⟩ = some (.pointer (some ⟨b, 0, none⟩)) ∧ W.cell? ⟨b, 2, none⟩ = some (.int .i64 e) ∧ W.cell? ⟨b, 0, none⟩ = some (.int .i64 s.last)) (by kernel_rfl) (by exact ⟨x0, y2, y0⟩) (fun hHeld => ?_)
        change wpAnyH _ _ _ _ _ 18 (Array.replicate 18 false) _ _
        refine wpAnyH_take (i := 0) (oi := _) (v := _) (by simp only [List.getElem?_toArray, List.getElem?_cons_zero]; rfl) (by kernel_rfl) (by kernel_rfl) (by kernel_rfl) (by exact fun _ _ _ h => h) (Or.inl ⟨by rfl, by intro w' hSw; (try dsimp only at hSw); first | (go_simp; done) | (go_simp; with_reducible rfl)⟩) hHeld ?_
        simp only [Act.put, List.setIfInBounds_toArray, List.set_cons_zero, List.set_cons_succ]
        refine wpAnyH_take (i := 1) (oi := _) (v := _) (by simp only [List.getElem?_toArray, List.getElem?_cons_succ, List.getElem?_cons_zero]; rfl) (by kernel_rfl) (by kernel_rfl) (by kernel_rfl) (by exact fun _ _ _ h => h) (Or.inl ⟨by rfl, by intro w' hSw; (try dsimp only at hSw); first | (go_simp; done) | (go_simp; with_reducible rfl)⟩) hHeld ?_
        simp only [Act.put, List.setIfInBounds_toArray, List.set_cons_zero, List.set_cons_succ]
        refine wpAnyH_take (i := 2) (oi := _) (v := _) (by simp only [List.getElem?_toArray, List.getElem?_cons_succ, List.getElem?_cons_zero]; rfl) (by kernel_rfl) (by kernel_rfl) (by kernel_rfl) (by exact fun _ _ _ h => h) (Or.inl ⟨by rfl, by intro w' hSw; (try dsimp only at hSw); first | (go_simp; done) | (go_simp; with_reducible rfl)⟩) hHeld ?_
        simp only [Act.put, List.setIfInBounds_toArray, List.set_cons_zero, List.set_cons_succ]
        refine wpAnyH_take (i := 3) (oi := _) (v := _) (by simp only [List.getElem?_toArray, List.getElem?_cons_succ, List.getElem?_cons_zero]; rfl) (by kernel_rfl) (by kernel_rfl) (by kernel_rfl) (by exact fun _ _ _ h => h) (Or.inl ⟨by rfl, by intro w' hSw; (try dsimp only at hSw); first | (go_simp; done) | (go_simp; with_reducible rfl)⟩) hHeld ?_
        simp only [Act.put, List.setIfInBounds_toArray, List.set_cons_zero, List.set_cons_succ]
        refine wpAnyH_take (i := 4) (oi := _) (v := _) (by simp only [List.getElem?_toArray, List.getElem?_cons_succ, List.getElem?_cons_zero]; rfl) (by kernel_rfl) (by kernel_rfl) (by kernel_rfl) (by exact fun _ _ _ h => h) (Or.inl ⟨by rfl, by intro w' hSw; (try dsimp only at hSw); first | (go_simp; done) | (go_simp; with_reducible rfl)⟩) hHeld ?_
        simp only [Act.put, List.setIfInBounds_toArray, List.set_cons_zero, List.set_cons_succ]
        refine wpAnyH_take (i := 5) (oi := _) (v := _) (by simp only [List.getElem?_toArray, List.getElem?_cons_succ, List.getElem?_cons_zero]; rfl) (by kernel_rfl) (by kernel_rfl) (by kernel_rfl) (by exact fun _ _ _ h => h) (Or.inl ⟨by rfl, by intro w' hSw; (try dsimp only at hSw); first | (go_simp; done) | (go_simp; with_reducible rfl)⟩) hHeld ?_
        simp only [Act.put, List.setIfInBounds_toArray, List.set_cons_zero, List.set_cons_succ]
        refine wpAnyH_take (i := 6) (oi := _) (v := _) (by simp only [List.getElem?_toArray, List.getElem?_cons_succ, List.getElem?_cons_zero]; rfl) (by kernel_rfl) (by kernel_rfl) (by kernel_rfl) (by exact fun _ _ _ h => h) (Or.inl ⟨by rfl, by intro w' hSw; (try dsimp only at hSw); first | (go_simp; done) | (go_simp; with_reducible rfl)⟩) hHeld ?_
        simp only [Act.put, List.setIfInBounds_toArray, List.set_cons_zero, List.set_cons_succ]
        refine wpAnyH_take (i := 7) (oi := _) (v := _) (by simp only [List.getElem?_toArray, List.getElem?_cons_succ, List.getElem?_cons_zero]; rfl) (by kernel_rfl) (by kernel_rfl) (by kernel_rfl) (by exact fun _ _ _ h => h) (Or.inl ⟨by rfl, by intro w' hSw; (try dsimp only at hSw); first | (go_simp; done) | (go_simp; with_reducible rfl)⟩) hHeld ?_
        simp only [Act.put, List.setIfInBounds_toArray, List.set_cons_zero, List.set_cons_succ]
        refine wpAnyH_take (i := 8) (oi := _) (v := _) (by simp only [List.getElem?_toArray, List.getElem?_cons_succ, List.getElem?_cons_zero]; rfl) (by kernel_rfl) (by kernel_rfl) (by kernel_rfl) (by exact fun _ _ _ h => h) (Or.inl ⟨by rfl, by intro w' hSw; (try dsimp only at hSw); first | (go_simp; done) | (go_simp; with_reducible rfl)⟩) hHeld ?_
        simp only [Act.put, List.setIfInBounds_toArray, List.set_cons_zero, List.set_cons_succ]
        refine wpAnyH_take (i := 9) (oi := _) (v := _) (by simp only [List.getElem?_toArray, List.getElem?_cons_succ, List.getElem?_cons_zero]; rfl) (by kernel_rfl) (by kernel_rfl) (by kernel_rfl) (by exact fun _ _ _ h => h) (Or.inl ⟨by rfl, by intro w' hSw; (try dsimp only at hSw); first | (go_simp; done) | (go_simp; with_reducible rfl)⟩) hHeld ?_
        simp only [Act.put, List.setIfInBounds_toArray, List.set_cons_zero, List.set_cons_succ]
        refine wpAnyH_take (i := 10) (oi := _) (v := _) (by simp only [List.getElem?_toArray, List.getElem?_cons_succ, List.getElem?_cons_zero]; rfl) (by kernel_rfl) (by kernel_rfl) (by kernel_rfl) (by exact fun _ _ _ h => h) (Or.inl ⟨by rfl, by intro w' hSw; (try dsimp only at hSw); first | (go_simp; done) | (go_simp; with_reducible rfl)⟩) hHeld ?_
        simp only [Act.put, List.setIfInBounds_toArray, List.set_cons_zero, List.set_cons_succ]
        refine wpAnyH_take (i := 11) (oi := _) (v := _) (by simp only [List.getElem?_toArray, List.getElem?_cons_succ, List.getElem?_cons_zero]; rfl) (by kernel_rfl) (by kernel_rfl) (by kernel_rfl) (by exact fun _ _ _ h => h) (Or.inl ⟨by rfl, by intro w' hSw; (try dsimp only at hSw); first | (go_simp; done) | (go_simp; with_reducible rfl)⟩) hHeld ?_
        simp only [Act.put, List.setIfInBounds_toArray, List.set_cons_zero, List.set_cons_succ]
        refine wpAnyH_take (i := 12) (oi := _) (v := _) (by simp only [List.getElem?_toArray, List.getElem?_cons_succ, List.getElem?_cons_zero]; rfl) (by kernel_rfl) (by kernel_rfl) (by kernel_rfl) (by exact fun _ _ _ h => h) (Or.inl ⟨by rfl, by intro w' hSw; (try dsimp only at hSw); first | (go_simp; done) | (go_simp; with_reducible rfl)⟩) hHeld ?_
        simp only [Act.put, List.setIfInBounds_toArray, List.set_cons_zero, List.set_cons_succ]
        refine wpAnyH_take (i := 13) (oi := _) (v := _) (by simp only [List.getElem?_toArray, List.getElem?_cons_succ, List.getElem?_cons_zero]; rfl) (by kernel_rfl) (by kernel_rfl) (by kernel_rfl) (by exact fun _ _ _ h => h) (Or.inl ⟨by rfl, by intro w' hSw; (try dsimp only at hSw); first | (go_simp; done) | (go_simp; with_reducible rfl)⟩) hHeld ?_
        simp only [Act.put, List.setIfInBounds_toArray, List.set_cons_zero, List.set_cons_succ]
        refine wpAnyH_take (i := 14) (oi := _) (v := _) (by simp only [List.getElem?_toArray, List.getElem?_cons_succ, List.getElem?_cons_zero]; rfl) (by kernel_rfl) (by kernel_rfl) (by kernel_rfl) (by exact fun _ _ _ h => h) (Or.inl ⟨by rfl, by intro w' hSw; (try dsimp only at hSw); first | (go_simp; done) | (go_simp; with_reducible rfl)⟩) hHeld ?_
        simp only [Act.put, List.setIfInBounds_toArray, List.set_cons_zero, List.set_cons_succ]
        refine wpAnyH_ready (rs := [15]) (by kernel_rfl) (by simp) ?_
        refine AllReadyH.cons rfl (fun K hK => ?_) AllReadyH.nil
        go_simp
        go_wp2_with fail
        refine HM.mono ?_
        rintro r w3 ⟨rfl, hb3⟩
        have HH3 : Hid (LeaveAt w w3 S b s mv hv t e) := (HH.out.below (Below.refl _ _).drew).below hb3
        have x3 := cell_of_heap HH3.out.box 0 _ rfl
        have y3 := cell_of_heap HH3.out.main 2 _ rfl
        have z3 := cell_of_heap HH3.out.main 0 _ rfl
        refine hK.out _ _ ⟨x3, y3, z3⟩ (fun hHeld => ?_)
        clear hK K
        refine wpAnyH_take (i := 16) (oi := _) (v := _) (by simp only [List.getElem?_toArray, List.getElem?_cons_succ, List.getElem?_cons_zero]; rfl) (by kernel_rfl) (by kernel_rfl) (by kernel_rfl) (by exact fun _ _ _ h => h) (Or.inl ⟨by rfl, by intro w' hSw; (try dsimp only at hSw); first | (go_simp; done) | (go_simp; with_reducible rfl)⟩) hHeld ?_
        simp only [Act.put, List.setIfInBounds_toArray, List.set_cons_zero, List.set_cons_succ]
        refine wpAnyH_take (i := 17) (oi := _) (v := _) (by simp only [List.getElem?_toArray, List.getElem?_cons_succ, List.getElem?_cons_zero]; rfl) (by kernel_rfl) (by kernel_rfl) (by kernel_rfl) (by exact fun _ _ _ h => h) (Or.inl ⟨by rfl, by intro w' hSw; (try dsimp only at hSw); first | (go_simp; done) | (go_simp; with_reducible rfl)⟩) hHeld ?_
        simp only [Act.put, List.setIfInBounds_toArray, List.set_cons_zero, List.set_cons_succ]
        refine wpAnyH_done (by kernel_rfl) ?_ _
        clear hHeld
        have x4 := cell_of_heap HH3.out.box 0 _ rfl
        have y4 := cell_of_heap HH3.out.main 3 _ rfl
        have y5 := cell_of_heap HH3.out.main 2 _ rfl
        have hll := HOK.out.len
        have HI := index_any (w := w3) hv s.l e w.heap.size b HH3.out.row (by omega) x4 y5
        rcases HH3.out.row.two with ⟨rfl, h0⟩ | ⟨g, off, cap, rfl, hc1, hc2⟩
        · go_wp2_with fail
          refine HI.mono ?_
          clear HI
          rintro r w4 ⟨hr, hb4⟩
          rcases hr with ⟨k, hk, _, _⟩ | ⟨rfl, hfn⟩
          · omega
          have HH5 : Hid (LeaveAt w w4 S b s mv (.slice none 0 0) t e) := HH3.out.below hb4
          have x5 := cell_of_heap HH5.out.box 0 _ rfl
          have z5 := cell_of_heap HH5.out.main 3 _ rfl
          have HTH := things_any (w := w4) (.slice none 0 0) s.l HH5.out.row (by omega)
          go_wp2_with fail
          refine HTH.mono ?_
          clear HTH
          rintro r w5 ⟨v5, rfl, ht5, hb5⟩
          have HH6 : Hid (LeaveAt w w5 S b s mv (.slice none 0 0) t e) := HH5.out.below hb5
          have x6 := cell_of_heap HH6.out.box 0 _ rfl
          have z6 := cell_of_heap HH6.out.main 3 _ rfl
          have f6 := free_of_heap HH6.out.main 3
          have hl0 : s.l = [] := List.eq_nil_of_length_eq_zero h0
          have hz7 := (heap_setCell_other w5 ⟨b, 3, none⟩ w.heap.size (.slice none 0 0) (by show w.heap.size ≠ b; omega)).trans HH6.out.box
          have x7 := cell_of_heap hz7 0 _ rfl
          have HFN := leave_fin (w6 := w5) (hv' := .slice none 0 0) HH6.out.main HH6.out.mp (by rw [hl0]; exact ⟨rfl, .inl ⟨rfl, rfl⟩⟩) HH6.out.turn (fun g hg => by cases hg) HLO.out hfn HD.out
          have HRS : Hid (TRow (w5.setCell ⟨b, 3, none⟩ (.slice none 0 0)).drew w.heap.size v5 (leaveL s t)) := by
            show TRow _ _ _ ((s.l.take (freeN s.l (lo (strike s.m t) s.last))).map Prod.fst)
            rw [HLO.out, hfn, List.take_length]
            refine TRow.keep (TRow.base ht5 HH5.out.turn.size) (fun g hg => heap_setCell_other w5 ⟨b, 3, none⟩ g _ (by have := ht5.ge g hg; have := HH5.out.turn.size; show g ≠ b; omega))
          have HFI : Hid (HoldIn (w5.setCell ⟨b, 3, none⟩ (.slice none 0 0)).drew S b (leaveF s t) mv (.slice none 0 0) ∧ Turn S w (w5.setCell ⟨b, 3, none⟩ (.slice none 0 0)).drew) := HFN
          obtain ⟨va, vc, hv5⟩ := ht5.slice
          rw [List.length_map, h0] at hv5
          subst hv5
          clear HFN hb5 hz7 hb4
          have hcln := clear_none
          go_wp2_with fail
          clear hcln
          refine wp_region_held_drew (S := fun W => W.cell? ⟨w.heap.size, 0, none⟩ = some (.pointer (some ⟨b, 0, none⟩))) (by kernel_rfl) (by exact x6) (fun hHeld => ?_)
          change wpAnyH _ _ _ _ _ 10 (Array.replicate 10 false) _ _
          refine wpAnyH_take (i := 0) (oi := _) (v := _) (by simp only [List.getElem?_toArray, List.getElem?_cons_zero]; rfl) (by kernel_rfl) (by kernel_rfl) (by kernel_rfl) (by exact fun _ _ _ h => h) (Or.inl ⟨by rfl, by intro w' hSw; (try dsimp only at hSw); first | (go_simp; done) | (go_simp; with_reducible rfl)⟩) hHeld ?_
          simp only [Act.put, List.setIfInBounds_toArray, List.set_cons_zero, List.set_cons_succ]
          refine wpAnyH_take (i := 1) (oi := _) (v := _) (by simp only [List.getElem?_toArray, List.getElem?_cons_succ, List.getElem?_cons_zero]; rfl) (by kernel_rfl) (by kernel_rfl) (by kernel_rfl) (by exact fun _ _ _ h => h) (Or.inl ⟨by rfl, by intro w' hSw; (try dsimp only at hSw); first | (go_simp; done) | (go_simp; with_reducible rfl)⟩) hHeld ?_
          simp only [Act.put, List.setIfInBounds_toArray, List.set_cons_zero, List.set_cons_succ]
          refine wpAnyH_take (i := 2) (oi := _) (v := _) (by simp only [List.getElem?_toArray, List.getElem?_cons_succ, List.getElem?_cons_zero]; rfl) (by kernel_rfl) (by kernel_rfl) (by kernel_rfl) (by exact fun _ _ _ h => h) (Or.inl ⟨by rfl, by intro w' hSw; (try dsimp only at hSw); first | (go_simp; done) | (go_simp; with_reducible rfl)⟩) hHeld ?_
          simp only [Act.put, List.setIfInBounds_toArray, List.set_cons_zero, List.set_cons_succ]
          refine wpAnyH_take (i := 3) (oi := _) (v := _) (by simp only [List.getElem?_toArray, List.getElem?_cons_succ, List.getElem?_cons_zero]; rfl) (by kernel_rfl) (by kernel_rfl) (by kernel_rfl) (by exact fun _ _ _ h => h) (Or.inl ⟨by rfl, by intro w' hSw; (try dsimp only at hSw); first | (go_simp; done) | (go_simp; with_reducible rfl)⟩) hHeld ?_
          simp only [Act.put, List.setIfInBounds_toArray, List.set_cons_zero, List.set_cons_succ]
          refine wpAnyH_take (i := 5) (oi := _) (v := _) (by simp only [List.getElem?_toArray, List.getElem?_cons_succ, List.getElem?_cons_zero]; rfl) (by kernel_rfl) (by kernel_rfl) (by kernel_rfl) (by exact fun _ _ _ h => h) (Or.inl ⟨by rfl, by intro w' hSw; (try dsimp only at hSw); first | (go_simp; done) | (go_simp; with_reducible rfl)⟩) hHeld ?_
          simp only [Act.put, List.setIfInBounds_toArray, List.set_cons_zero, List.set_cons_succ]
          refine wpAnyH_ready (rs := [4]) (by kernel_rfl) (by simp) ?_
          refine AllReadyH.cons rfl (fun K hK => ?_) AllReadyH.nil
          go_simp
          go_wp2_with fail
          refine hK.out _ _ x6 (fun hHeld => ?_)
          clear hK K
          refine wpAnyH_take (i := 6) (oi := _) (v := _) (by simp only [List.getElem?_toArray, List.getElem?_cons_succ, List.getElem?_cons_zero]; rfl) (by kernel_rfl) (by kernel_rfl) (by kernel_rfl) (by exact fun _ _ _ h => h) (Or.inl ⟨by rfl, by intro w' hSw; (try dsimp only at hSw); first | (go_simp; done) | (go_simp; with_reducible rfl)⟩) hHeld ?_
          simp only [Act.put, List.setIfInBounds_toArray, List.set_cons_zero, List.set_cons_succ]
          refine wpAnyH_take (i := 7) (oi := _) (v := _) (by simp only [List.getElem?_toArray, List.getElem?_cons_succ, List.getElem?_cons_zero]; rfl) (by kernel_rfl) (by kernel_rfl) (by kernel_rfl) (by exact fun _ _ _ h => h) (Or.inl ⟨by rfl, by intro w' hSw; (try dsimp only at hSw); first | (go_simp; done) | (go_simp; with_reducible rfl)⟩) hHeld ?_
          simp only [Act.put, List.setIfInBounds_toArray, List.set_cons_zero, List.set_cons_succ]
          refine wpAnyH_take (i := 8) (oi := _) (v := _) (by simp only [List.getElem?_toArray, List.getElem?_cons_succ, List.getElem?_cons_zero]; rfl) (by kernel_rfl) (by kernel_rfl) (by kernel_rfl) (by exact fun _ _ _ h => h) (Or.inl ⟨by rfl, by intro w' hSw; (try dsimp only at hSw); first | (go_simp; done) | (go_simp; with_reducible rfl)⟩) hHeld ?_
          simp only [Act.put, List.setIfInBounds_toArray, List.set_cons_zero, List.set_cons_succ]
          refine wpAnyH_ready (rs := [9]) (by kernel_rfl) (by simp) ?_
          refine AllReadyH.cons rfl (fun K hK => ?_) AllReadyH.nil
          go_simp
          go_wp2_with fail
          refine hK.out _ _ x7 (fun hHeld => ?_)
          clear hK K
          refine wpAnyH_done (by kernel_rfl) ?_ _
          clear hHeld
          go_wp2
          go_ret
          exact ⟨⟨_, _, rfl, HRS.out, HFI.out.1⟩, HFI.out.2⟩
        · have hcS : S g := HD.out.sr g rfl
          go_wp2_with fail
          refine HI.mono ?_
          clear HI
          rintro r w4 ⟨hr, hb4⟩
          have HH5 : Hid (LeaveAt w w4 S b s mv (.slice (some ⟨g, off, none⟩) s.l.length cap) t e) := HH3.out.below hb4
          have x5 := cell_of_heap HH5.out.box 0 _ rfl
          have z5 := cell_of_heap HH5.out.main 3 _ rfl
          rcases hr with ⟨k, hk, rfl, hfn⟩ | ⟨rfl, hfn⟩
          · have hkl : k ≤ s.l.length := by omega
            have HTH := things_any (w := w4) (.slice (some ⟨g, off, none⟩) (k) cap) (s.l.take (k)) (HH5.out.row.pre rfl _ hkl) (by rw [List.length_take]; omega)
            have hkc : (k) ≤ cap := by omega
            go_wp2_with fail
            refine HTH.mono ?_
            clear HTH
            rintro r w5 ⟨v5, rfl, ht5, hb5⟩
            have HH6 : Hid (LeaveAt w w5 S b s mv (.slice (some ⟨g, off, none⟩) s.l.length cap) t e) := HH5.out.below hb5
            obtain ⟨w6, hclr, ho6, hg6, hs6⟩ := run_clear_o (P := Try.prog) w5 73 104 (.agg #[.string ⟨#[]⟩, .int .i64 0]) _ _ Try.underlying73 zeroD rfl rfl rfl g off s.l.length cap (k) (dcells s.l) HH6.out.row hkl
            have hr6 := DRow.rest ho6 rfl hkl hc1
            have hgb : g ≠ b := row_ne HH6.out.row HH6.out.main g rfl
            have hgz : g ≠ w.heap.size := row_ne2 HH6.out.row HH6.out.box g rfl
            have hg4 : g < w4.heap.size := ORow.lt HH5.out.row g rfl
            have hm6 := (hg6.block b (lt_of_heap HH6.out.main) (fun e => hgb (by injection e with e; exact e.symm))).trans HH6.out.main
            have hx6 := (hg6.block _ (lt_of_heap HH6.out.box) (fun e => hgz (by injection e with e; exact e.symm))).trans HH6.out.box
            have hp6 := HH6.out.mp.keep (w' := w6) (fun g' hg' => hg6.block g' (HH6.out.mp.lt g' hg') (fun e => by
              injection e with e
              subst e
              obtain ⟨es, c, hh⟩ := HH6.out.mp.map _ hg'
              obtain ⟨c', hh'⟩ := ORow.type HH6.out.row _ rfl
              rw [hh] at hh'
              cases hh'))
            have ht6 : Turn S w w6 := HH6.out.turn.trans (Turn.grown hg6 (fun g' e => by cases e; exact .inl hcS))
            have x5' := cell_of_heap HH6.out.box 0 _ rfl
            have z5' := cell_of_heap HH6.out.main 3 _ rfl
            have x6 := cell_of_heap hx6 0 _ rfl
            have z6 := cell_of_heap hm6 3 _ rfl
            have f6 := free_of_heap hm6 3
            have HRS0 : TRow w6 w.heap.size v5 (leaveL s t) := by
              show TRow _ _ _ ((s.l.take (freeN s.l (lo (strike s.m t) s.last))).map Prod.fst)
              rw [HLO.out, hfn]
              exact TRow.keep (TRow.base ht5 HH5.out.turn.size) (fun g' hg' => hg6.block g' (ht5.lt g' hg') (fun e => by injection e with e; have := ht5.ge g' hg'; omega))
            obtain ⟨sa, hsa⟩ : ∃ sa, sa = (if cap = (k) then some (⟨g, off, none⟩ : Addr) else some ⟨g, off + (k) * 2, none⟩) := ⟨_, rfl⟩
            rw [← hsa] at hr6
            have hsb : ∀ g', (Value.slice sa (s.l.length - (k)) (cap - (k))).ownBlock = some g' → S g' ∧ g' ≠ b := fun g' hg' => by
              rw [hsa] at hg'
              by_cases hck : cap = (k)
              · rw [if_pos hck] at hg'
                cases hg'
                exact ⟨hcS, hgb⟩
              · rw [if_neg hck] at hg'
                cases hg'
                exact ⟨hcS, hgb⟩
            have hz7 := (heap_setCell_other w6 ⟨b, 3, none⟩ w.heap.size (.slice sa (s.l.length - (k)) (cap - (k))) (by show w.heap.size ≠ b; omega)).trans hx6
            have x7 := cell_of_heap hz7 0 _ rfl
            have HFI : Hid (HoldIn (w6.setCell ⟨b, 3, none⟩ (.slice sa (s.l.length - (k)) (cap - (k)))).drew S b (leaveF s t) mv (.slice sa (s.l.length - (k)) (cap - (k))) ∧ Turn S w (w6.setCell ⟨b, 3, none⟩ (.slice sa (s.l.length - (k)) (cap - (k)))).drew) :=
              leave_fin (w6 := w6) hm6 hp6 hr6 ht6 hsb HLO.out hfn HD.out
            have HRS : Hid (TRow (w6.setCell ⟨b, 3, none⟩ (.slice sa (s.l.length - (k)) (cap - (k)))).drew w.heap.size v5 (leaveL s t)) :=
              HRS0.keep (fun g' hg' => heap_setCell_other w6 ⟨b, 3, none⟩ g' _ (by have := HRS0.ge g' hg'; show g' ≠ b; omega))
            obtain ⟨va, vc, hv5⟩ := ht5.slice
            rw [List.length_map, List.length_take, Nat.min_eq_left hkl] at hv5
            subst hv5
            rw [if_neg (by omega : ¬ cap = k)] at hsa; subst hsa
            clear HRS0 hp6 hr6 ho6 hg6 hs6 hb5 hb4 hm6 hx6 hsb hz7 ht6
            go_wp2_with fail
            clear hclr
            refine wp_region_held_drew (S := fun W => W.cell? ⟨w.heap.size, 0, none⟩ = some (.pointer (some ⟨b, 0, none⟩))) (by kernel_rfl) (by exact x6) (fun hHeld => ?_)
            change wpAnyH _ _ _ _ _ 10 (Array.replicate 10 false) _ _
            refine wpAnyH_take (i := 0) (oi := _) (v := _) (by simp only [List.getElem?_toArray, List.getElem?_cons_zero]; rfl) (by kernel_rfl) (by kernel_rfl) (by kernel_rfl) (by exact fun _ _ _ h => h) (Or.inl ⟨by rfl, by intro w' hSw; (try dsimp only at hSw); first | (go_simp; done) | (go_simp; with_reducible rfl)⟩) hHeld ?_
            simp only [Act.put, List.setIfInBounds_toArray, List.set_cons_zero, List.set_cons_succ]
            refine wpAnyH_take (i := 1) (oi := _) (v := _) (by simp only [List.getElem?_toArray, List.getElem?_cons_succ, List.getElem?_cons_zero]; rfl) (by kernel_rfl) (by kernel_rfl) (by kernel_rfl) (by exact fun _ _ _ h => h) (Or.inl ⟨by rfl, by intro w' hSw; (try dsimp only at hSw); first | (go_simp; done) | (go_simp; with_reducible rfl)⟩) hHeld ?_
            simp only [Act.put, List.setIfInBounds_toArray, List.set_cons_zero, List.set_cons_succ]
            refine wpAnyH_take (i := 2) (oi := _) (v := _) (by simp only [List.getElem?_toArray, List.getElem?_cons_succ, List.getElem?_cons_zero]; rfl) (by kernel_rfl) (by kernel_rfl) (by kernel_rfl) (by exact fun _ _ _ h => h) (Or.inl ⟨by rfl, by intro w' hSw; (try dsimp only at hSw); first | (go_simp; done) | (go_simp; with_reducible rfl)⟩) hHeld ?_
            simp only [Act.put, List.setIfInBounds_toArray, List.set_cons_zero, List.set_cons_succ]
            refine wpAnyH_take (i := 3) (oi := _) (v := _) (by simp only [List.getElem?_toArray, List.getElem?_cons_succ, List.getElem?_cons_zero]; rfl) (by kernel_rfl) (by kernel_rfl) (by kernel_rfl) (by exact fun _ _ _ h => h) (Or.inl ⟨by rfl, by intro w' hSw; (try dsimp only at hSw); first | (go_simp; done) | (go_simp; with_reducible rfl)⟩) hHeld ?_
            simp only [Act.put, List.setIfInBounds_toArray, List.set_cons_zero, List.set_cons_succ]
            refine wpAnyH_take (i := 5) (oi := _) (v := _) (by simp only [List.getElem?_toArray, List.getElem?_cons_succ, List.getElem?_cons_zero]; rfl) (by kernel_rfl) (by kernel_rfl) (by kernel_rfl) (by exact fun _ _ _ h => h) (Or.inl ⟨by rfl, by intro w' hSw; (try dsimp only at hSw); first | (go_simp; done) | (go_simp; with_reducible rfl)⟩) hHeld ?_
            simp only [Act.put, List.setIfInBounds_toArray, List.set_cons_zero, List.set_cons_succ]
            refine wpAnyH_ready (rs := [4]) (by kernel_rfl) (by simp) ?_
            refine AllReadyH.cons rfl (fun K hK => ?_) AllReadyH.nil
            go_simp
            go_wp2_with fail
            refine hK.out _ _ x6 (fun hHeld => ?_)
            clear hK K
            refine wpAnyH_take (i := 6) (oi := _) (v := _) (by simp only [List.getElem?_toArray, List.getElem?_cons_succ, List.getElem?_cons_zero]; rfl) (by kernel_rfl) (by kernel_rfl) (by kernel_rfl) (by exact fun _ _ _ h => h) (Or.inl ⟨by rfl, by intro w' hSw; (try dsimp only at hSw); first | (go_simp; done) | (go_simp; with_reducible rfl)⟩) hHeld ?_
            simp only [Act.put, List.setIfInBounds_toArray, List.set_cons_zero, List.set_cons_succ]
            refine wpAnyH_take (i := 7) (oi := _) (v := _) (by simp only [List.getElem?_toArray, List.getElem?_cons_succ, List.getElem?_cons_zero]; rfl) (by kernel_rfl) (by kernel_rfl) (by kernel_rfl) (by exact fun _ _ _ h => h) (Or.inl ⟨by rfl, by intro w' hSw; (try dsimp only at hSw); first | (go_simp; done) | (go_simp; with_reducible rfl)⟩) hHeld ?_
            simp only [Act.put, List.setIfInBounds_toArray, List.set_cons_zero, List.set_cons_succ]
            refine wpAnyH_take (i := 8) (oi := _) (v := _) (by simp only [List.getElem?_toArray, List.getElem?_cons_succ, List.getElem?_cons_zero]; rfl) (by kernel_rfl) (by kernel_rfl) (by kernel_rfl) (by exact fun _ _ _ h => h) (Or.inl ⟨by rfl, by intro w' hSw; (try dsimp only at hSw); first | (go_simp; done) | (go_simp; with_reducible rfl)⟩) hHeld ?_
            simp only [Act.put, List.setIfInBounds_toArray, List.set_cons_zero, List.set_cons_succ]
            refine wpAnyH_ready (rs := [9]) (by kernel_rfl) (by simp) ?_
            refine AllReadyH.cons rfl (fun K hK => ?_) AllReadyH.nil
            go_simp
            go_wp2_with fail
            refine hK.out _ _ x7 (fun hHeld => ?_)
            clear hK K
            refine wpAnyH_done (by kernel_rfl) ?_ _
            clear hHeld
            go_wp2
            go_ret
            exact ⟨⟨_, _, rfl, HRS.out, HFI.out.1⟩, HFI.out.2⟩
          · have hkl : s.l.length ≤ s.l.length := Nat.le_refl _
            by_cases hcl : cap = s.l.length
            · subst hcl
              have HTH := things_any (w := w4) (.slice (some ⟨g, off, none⟩) (s.l.length) s.l.length) (s.l.take (s.l.length)) (HH5.out.row.pre rfl _ hkl) (by rw [List.length_take]; omega)
              have hkc : (s.l.length) ≤ s.l.length := by omega
              go_wp2_with fail
              refine HTH.mono ?_
              clear HTH
              rintro r w5 ⟨v5, rfl, ht5, hb5⟩
              have HH6 : Hid (LeaveAt w w5 S b s mv (.slice (some ⟨g, off, none⟩) s.l.length s.l.length) t e) := HH5.out.below hb5
              obtain ⟨w6, hclr, ho6, hg6, hs6⟩ := run_clear_o (P := Try.prog) w5 73 104 (.agg #[.string ⟨#[]⟩, .int .i64 0]) _ _ Try.underlying73 zeroD rfl rfl rfl g off s.l.length s.l.length (s.l.length) (dcells s.l) HH6.out.row hkl
              have hr6 := DRow.rest ho6 rfl hkl hc1
              have hgb : g ≠ b := row_ne HH6.out.row HH6.out.main g rfl
              have hgz : g ≠ w.heap.size := row_ne2 HH6.out.row HH6.out.box g rfl
              have hg4 : g < w4.heap.size := ORow.lt HH5.out.row g rfl
              have hm6 := (hg6.block b (lt_of_heap HH6.out.main) (fun e => hgb (by injection e with e; exact e.symm))).trans HH6.out.main
              have hx6 := (hg6.block _ (lt_of_heap HH6.out.box) (fun e => hgz (by injection e with e; exact e.symm))).trans HH6.out.box
              have hp6 := HH6.out.mp.keep (w' := w6) (fun g' hg' => hg6.block g' (HH6.out.mp.lt g' hg') (fun e => by
                injection e with e
                subst e
                obtain ⟨es, c, hh⟩ := HH6.out.mp.map _ hg'
                obtain ⟨c', hh'⟩ := ORow.type HH6.out.row _ rfl
                rw [hh] at hh'
                cases hh'))
              have ht6 : Turn S w w6 := HH6.out.turn.trans (Turn.grown hg6 (fun g' e => by cases e; exact .inl hcS))
              have x5' := cell_of_heap HH6.out.box 0 _ rfl
              have z5' := cell_of_heap HH6.out.main 3 _ rfl
              have x6 := cell_of_heap hx6 0 _ rfl
              have z6 := cell_of_heap hm6 3 _ rfl
              have f6 := free_of_heap hm6 3
              have HRS0 : TRow w6 w.heap.size v5 (leaveL s t) := by
                show TRow _ _ _ ((s.l.take (freeN s.l (lo (strike s.m t) s.last))).map Prod.fst)
                rw [HLO.out, hfn]
                exact TRow.keep (TRow.base ht5 HH5.out.turn.size) (fun g' hg' => hg6.block g' (ht5.lt g' hg') (fun e => by injection e with e; have := ht5.ge g' hg'; omega))
              obtain ⟨sa, hsa⟩ : ∃ sa, sa = (if s.l.length = (s.l.length) then some (⟨g, off, none⟩ : Addr) else some ⟨g, off + (s.l.length) * 2, none⟩) := ⟨_, rfl⟩
              rw [← hsa] at hr6
              have hsb : ∀ g', (Value.slice sa (s.l.length - (s.l.length)) (s.l.length - (s.l.length))).ownBlock = some g' → S g' ∧ g' ≠ b := fun g' hg' => by
                rw [hsa] at hg'
                by_cases hck : s.l.length = (s.l.length)
                · rw [if_pos hck] at hg'
                  cases hg'
                  exact ⟨hcS, hgb⟩
                · rw [if_neg hck] at hg'
                  cases hg'
                  exact ⟨hcS, hgb⟩
              have hz7 := (heap_setCell_other w6 ⟨b, 3, none⟩ w.heap.size (.slice sa (s.l.length - (s.l.length)) (s.l.length - (s.l.length))) (by show w.heap.size ≠ b; omega)).trans hx6
              have x7 := cell_of_heap hz7 0 _ rfl
              have HFI : Hid (HoldIn (w6.setCell ⟨b, 3, none⟩ (.slice sa (s.l.length - (s.l.length)) (s.l.length - (s.l.length)))).drew S b (leaveF s t) mv (.slice sa (s.l.length - (s.l.length)) (s.l.length - (s.l.length))) ∧ Turn S w (w6.setCell ⟨b, 3, none⟩ (.slice sa (s.l.length - (s.l.length)) (s.l.length - (s.l.length)))).drew) :=
                leave_fin (w6 := w6) hm6 hp6 hr6 ht6 hsb HLO.out hfn HD.out
              have HRS : Hid (TRow (w6.setCell ⟨b, 3, none⟩ (.slice sa (s.l.length - (s.l.length)) (s.l.length - (s.l.length)))).drew w.heap.size v5 (leaveL s t)) :=
                HRS0.keep (fun g' hg' => heap_setCell_other w6 ⟨b, 3, none⟩ g' _ (by have := HRS0.ge g' hg'; show g' ≠ b; omega))
              obtain ⟨va, vc, hv5⟩ := ht5.slice
              rw [List.length_map, List.length_take, Nat.min_eq_left hkl] at hv5
              subst hv5
              rw [if_pos rfl] at hsa; subst hsa; rw [Nat.sub_self] at HFI HRS x7
              clear HRS0 hp6 hr6 ho6 hg6 hs6 hb5 hb4 hm6 hx6 hsb hz7 ht6
              go_wp2_with fail
              clear hclr
              refine wp_region_held_drew (S := fun W => W.cell? ⟨w.heap.size, 0, none⟩ = some (.pointer (some ⟨b, 0, none⟩))) (by kernel_rfl) (by exact x6) (fun hHeld => ?_)
              change wpAnyH _ _ _ _ _ 10 (Array.replicate 10 false) _ _
              refine wpAnyH_take (i := 0) (oi := _) (v := _) (by simp only [List.getElem?_toArray, List.getElem?_cons_zero]; rfl) (by kernel_rfl) (by kernel_rfl) (by kernel_rfl) (by exact fun _ _ _ h => h) (Or.inl ⟨by rfl, by intro w' hSw; (try dsimp only at hSw); first | (go_simp; done) | (go_simp; with_reducible rfl)⟩) hHeld ?_
              simp only [Act.put, List.setIfInBounds_toArray, List.set_cons_zero, List.set_cons_succ]
              refine wpAnyH_take (i := 1) (oi := _) (v := _) (by simp only [List.getElem?_toArray, List.getElem?_cons_succ, List.getElem?_cons_zero]; rfl) (by kernel_rfl) (by kernel_rfl) (by kernel_rfl) (by exact fun _ _ _ h => h) (Or.inl ⟨by rfl, by intro w' hSw; (try dsimp only at hSw); first | (go_simp; done) | (go_simp; with_reducible rfl)⟩) hHeld ?_
              simp only [Act.put, List.setIfInBounds_toArray, List.set_cons_zero, List.set_cons_succ]
              refine wpAnyH_take (i := 2) (oi := _) (v := _) (by simp only [List.getElem?_toArray, List.getElem?_cons_succ, List.getElem?_cons_zero]; rfl) (by kernel_rfl) (by kernel_rfl) (by kernel_rfl) (by exact fun _ _ _ h => h) (Or.inl ⟨by rfl, by intro w' hSw; (try dsimp only at hSw); first | (go_simp; done) | (go_simp; with_reducible rfl)⟩) hHeld ?_
              simp only [Act.put, List.setIfInBounds_toArray, List.set_cons_zero, List.set_cons_succ]
              refine wpAnyH_take (i := 3) (oi := _) (v := _) (by simp only [List.getElem?_toArray, List.getElem?_cons_succ, List.getElem?_cons_zero]; rfl) (by kernel_rfl) (by kernel_rfl) (by kernel_rfl) (by exact fun _ _ _ h => h) (Or.inl ⟨by rfl, by intro w' hSw; (try dsimp only at hSw); first | (go_simp; done) | (go_simp; with_reducible rfl)⟩) hHeld ?_
              simp only [Act.put, List.setIfInBounds_toArray, List.set_cons_zero, List.set_cons_succ]
              refine wpAnyH_take (i := 5) (oi := _) (v := _) (by simp only [List.getElem?_toArray, List.getElem?_cons_succ, List.getElem?_cons_zero]; rfl) (by kernel_rfl) (by kernel_rfl) (by kernel_rfl) (by exact fun _ _ _ h => h) (Or.inl ⟨by rfl, by intro w' hSw; (try dsimp only at hSw); first | (go_simp; done) | (go_simp; with_reducible rfl)⟩) hHeld ?_
              simp only [Act.put, List.setIfInBounds_toArray, List.set_cons_zero, List.set_cons_succ]
              refine wpAnyH_ready (rs := [4]) (by kernel_rfl) (by simp) ?_
              refine AllReadyH.cons rfl (fun K hK => ?_) AllReadyH.nil
              go_simp
              go_wp2_with fail
              refine hK.out _ _ x6 (fun hHeld => ?_)
              clear hK K
              refine wpAnyH_take (i := 6) (oi := _) (v := _) (by simp only [List.getElem?_toArray, List.getElem?_cons_succ, List.getElem?_cons_zero]; rfl) (by kernel_rfl) (by kernel_rfl) (by kernel_rfl) (by exact fun _ _ _ h => h) (Or.inl ⟨by rfl, by intro w' hSw; (try dsimp only at hSw); first | (go_simp; done) | (go_simp; with_reducible rfl)⟩) hHeld ?_
              simp only [Act.put, List.setIfInBounds_toArray, List.set_cons_zero, List.set_cons_succ]
              refine wpAnyH_take (i := 7) (oi := _) (v := _) (by simp only [List.getElem?_toArray, List.getElem?_cons_succ, List.getElem?_cons_zero]; rfl) (by kernel_rfl) (by kernel_rfl) (by kernel_rfl) (by exact fun _ _ _ h => h) (Or.inl ⟨by rfl, by intro w' hSw; (try dsimp only at hSw); first | (go_simp; done) | (go_simp; with_reducible rfl)⟩) hHeld ?_
              simp only [Act.put, List.setIfInBounds_toArray, List.set_cons_zero, List.set_cons_succ]
              refine wpAnyH_take (i := 8) (oi := _) (v := _) (by simp only [List.getElem?_toArray, List.getElem?_cons_succ, List.getElem?_cons_zero]; rfl) (by kernel_rfl) (by kernel_rfl) (by kernel_rfl) (by exact fun _ _ _ h => h) (Or.inl ⟨by rfl, by intro w' hSw; (try dsimp only at hSw); first | (go_simp; done) | (go_simp; with_reducible rfl)⟩) hHeld ?_
              simp only [Act.put, List.setIfInBounds_toArray, List.set_cons_zero, List.set_cons_succ]
              refine wpAnyH_ready (rs := [9]) (by kernel_rfl) (by simp) ?_
              refine AllReadyH.cons rfl (fun K hK => ?_) AllReadyH.nil
              go_simp
              go_wp2_with fail
              refine hK.out _ _ x7 (fun hHeld => ?_)
              clear hK K
              refine wpAnyH_done (by kernel_rfl) ?_ _
              clear hHeld
              go_wp2
              go_ret
              exact ⟨⟨_, _, rfl, HRS.out, HFI.out.1⟩, HFI.out.2⟩
            · skip
              have HTH := things_any (w := w4) (.slice (some ⟨g, off, none⟩) (s.l.length) cap) (s.l.take (s.l.length)) (HH5.out.row.pre rfl _ hkl) (by rw [List.length_take]; omega)
              have hkc : (s.l.length) ≤ cap := by omega
              go_wp2_with fail
              refine HTH.mono ?_
              clear HTH
              rintro r w5 ⟨v5, rfl, ht5, hb5⟩
              have HH6 : Hid (LeaveAt w w5 S b s mv (.slice (some ⟨g, off, none⟩) s.l.length cap) t e) := HH5.out.below hb5
              obtain ⟨w6, hclr, ho6, hg6, hs6⟩ := run_clear_o (P := Try.prog) w5 73 104 (.agg #[.string ⟨#[]⟩, .int .i64 0]) _ _ Try.underlying73 zeroD rfl rfl rfl g off s.l.length cap (s.l.length) (dcells s.l) HH6.out.row hkl
              have hr6 := DRow.rest ho6 rfl hkl hc1
              have hgb : g ≠ b := row_ne HH6.out.row HH6.out.main g rfl
              have hgz : g ≠ w.heap.size := row_ne2 HH6.out.row HH6.out.box g rfl
              have hg4 : g < w4.heap.size := ORow.lt HH5.out.row g rfl
              have hm6 := (hg6.block b (lt_of_heap HH6.out.main) (fun e => hgb (by injection e with e; exact e.symm))).trans HH6.out.main
              have hx6 := (hg6.block _ (lt_of_heap HH6.out.box) (fun e => hgz (by injection e with e; exact e.symm))).trans HH6.out.box
              have hp6 := HH6.out.mp.keep (w' := w6) (fun g' hg' => hg6.block g' (HH6.out.mp.lt g' hg') (fun e => by
                injection e with e
                subst e
                obtain ⟨es, c, hh⟩ := HH6.out.mp.map _ hg'
                obtain ⟨c', hh'⟩ := ORow.type HH6.out.row _ rfl
                rw [hh] at hh'
                cases hh'))
              have ht6 : Turn S w w6 := HH6.out.turn.trans (Turn.grown hg6 (fun g' e => by cases e; exact .inl hcS))
              have x5' := cell_of_heap HH6.out.box 0 _ rfl
              have z5' := cell_of_heap HH6.out.main 3 _ rfl
              have x6 := cell_of_heap hx6 0 _ rfl
              have z6 := cell_of_heap hm6 3 _ rfl
              have f6 := free_of_heap hm6 3
              have HRS0 : TRow w6 w.heap.size v5 (leaveL s t) := by
                show TRow _ _ _ ((s.l.take (freeN s.l (lo (strike s.m t) s.last))).map Prod.fst)
                rw [HLO.out, hfn]
                exact TRow.keep (TRow.base ht5 HH5.out.turn.size) (fun g' hg' => hg6.block g' (ht5.lt g' hg') (fun e => by injection e with e; have := ht5.ge g' hg'; omega))
              obtain ⟨sa, hsa⟩ : ∃ sa, sa = (if cap = (s.l.length) then some (⟨g, off, none⟩ : Addr) else some ⟨g, off + (s.l.length) * 2, none⟩) := ⟨_, rfl⟩
              rw [← hsa] at hr6
              have hsb : ∀ g', (Value.slice sa (s.l.length - (s.l.length)) (cap - (s.l.length))).ownBlock = some g' → S g' ∧ g' ≠ b := fun g' hg' => by
                rw [hsa] at hg'
                by_cases hck : cap = (s.l.length)
                · rw [if_pos hck] at hg'
                  cases hg'
                  exact ⟨hcS, hgb⟩
                · rw [if_neg hck] at hg'
                  cases hg'
                  exact ⟨hcS, hgb⟩
              have hz7 := (heap_setCell_other w6 ⟨b, 3, none⟩ w.heap.size (.slice sa (s.l.length - (s.l.length)) (cap - (s.l.length))) (by show w.heap.size ≠ b; omega)).trans hx6
              have x7 := cell_of_heap hz7 0 _ rfl
              have HFI : Hid (HoldIn (w6.setCell ⟨b, 3, none⟩ (.slice sa (s.l.length - (s.l.length)) (cap - (s.l.length)))).drew S b (leaveF s t) mv (.slice sa (s.l.length - (s.l.length)) (cap - (s.l.length))) ∧ Turn S w (w6.setCell ⟨b, 3, none⟩ (.slice sa (s.l.length - (s.l.length)) (cap - (s.l.length)))).drew) :=
                leave_fin (w6 := w6) hm6 hp6 hr6 ht6 hsb HLO.out hfn HD.out
              have HRS : Hid (TRow (w6.setCell ⟨b, 3, none⟩ (.slice sa (s.l.length - (s.l.length)) (cap - (s.l.length)))).drew w.heap.size v5 (leaveL s t)) :=
                HRS0.keep (fun g' hg' => heap_setCell_other w6 ⟨b, 3, none⟩ g' _ (by have := HRS0.ge g' hg'; show g' ≠ b; omega))
              obtain ⟨va, vc, hv5⟩ := ht5.slice
              rw [List.length_map, List.length_take, Nat.min_eq_left hkl] at hv5
              subst hv5
              rw [if_neg hcl] at hsa; subst hsa; rw [Nat.sub_self] at HFI HRS x7
              clear HRS0 hp6 hr6 ho6 hg6 hs6 hb5 hb4 hm6 hx6 hsb hz7 ht6
              go_wp2_with fail
              clear hclr
              refine wp_region_held_drew (S := fun W => W.cell? ⟨w.heap.size, 0, none⟩ = some (.pointer (some ⟨b, 0, none⟩))) (by kernel_rfl) (by exact x6) (fun hHeld => ?_)
              change wpAnyH _ _ _ _ _ 10 (Array.replicate 10 false) _ _
              refine wpAnyH_take (i := 0) (oi := _) (v := _) (by simp only [List.getElem?_toArray, List.getElem?_cons_zero]; rfl) (by kernel_rfl) (by kernel_rfl) (by kernel_rfl) (by exact fun _ _ _ h => h) (Or.inl ⟨by rfl, by intro w' hSw; (try dsimp only at hSw); first | (go_simp; done) | (go_simp; with_reducible rfl)⟩) hHeld ?_
              simp only [Act.put, List.setIfInBounds_toArray, List.set_cons_zero, List.set_cons_succ]
              refine wpAnyH_take (i := 1) (oi := _) (v := _) (by simp only [List.getElem?_toArray, List.getElem?_cons_succ, List.getElem?_cons_zero]; rfl) (by kernel_rfl) (by kernel_rfl) (by kernel_rfl) (by exact fun _ _ _ h => h) (Or.inl ⟨by rfl, by intro w' hSw; (try dsimp only at hSw); first | (go_simp; done) | (go_simp; with_reducible rfl)⟩) hHeld ?_
              simp only [Act.put, List.setIfInBounds_toArray, List.set_cons_zero, List.set_cons_succ]
              refine wpAnyH_take (i := 2) (oi := _) (v := _) (by simp only [List.getElem?_toArray, List.getElem?_cons_succ, List.getElem?_cons_zero]; rfl) (by kernel_rfl) (by kernel_rfl) (by kernel_rfl) (by exact fun _ _ _ h => h) (Or.inl ⟨by rfl, by intro w' hSw; (try dsimp only at hSw); first | (go_simp; done) | (go_simp; with_reducible rfl)⟩) hHeld ?_
              simp only [Act.put, List.setIfInBounds_toArray, List.set_cons_zero, List.set_cons_succ]
              refine wpAnyH_take (i := 3) (oi := _) (v := _) (by simp only [List.getElem?_toArray, List.getElem?_cons_succ, List.getElem?_cons_zero]; rfl) (by kernel_rfl) (by kernel_rfl) (by kernel_rfl) (by exact fun _ _ _ h => h) (Or.inl ⟨by rfl, by intro w' hSw; (try dsimp only at hSw); first | (go_simp; done) | (go_simp; with_reducible rfl)⟩) hHeld ?_
              simp only [Act.put, List.setIfInBounds_toArray, List.set_cons_zero, List.set_cons_succ]
              refine wpAnyH_take (i := 5) (oi := _) (v := _) (by simp only [List.getElem?_toArray, List.getElem?_cons_succ, List.getElem?_cons_zero]; rfl) (by kernel_rfl) (by kernel_rfl) (by kernel_rfl) (by exact fun _ _ _ h => h) (Or.inl ⟨by rfl, by intro w' hSw; (try dsimp only at hSw); first | (go_simp; done) | (go_simp; with_reducible rfl)⟩) hHeld ?_
              simp only [Act.put, List.setIfInBounds_toArray, List.set_cons_zero, List.set_cons_succ]
              refine wpAnyH_ready (rs := [4]) (by kernel_rfl) (by simp) ?_
              refine AllReadyH.cons rfl (fun K hK => ?_) AllReadyH.nil
              go_simp
              go_wp2_with fail
              refine hK.out _ _ x6 (fun hHeld => ?_)
              clear hK K
              refine wpAnyH_take (i := 6) (oi := _) (v := _) (by simp only [List.getElem?_toArray, List.getElem?_cons_succ, List.getElem?_cons_zero]; rfl) (by kernel_rfl) (by kernel_rfl) (by kernel_rfl) (by exact fun _ _ _ h => h) (Or.inl ⟨by rfl, by intro w' hSw; (try dsimp only at hSw); first | (go_simp; done) | (go_simp; with_reducible rfl)⟩) hHeld ?_
              simp only [Act.put, List.setIfInBounds_toArray, List.set_cons_zero, List.set_cons_succ]
              refine wpAnyH_take (i := 7) (oi := _) (v := _) (by simp only [List.getElem?_toArray, List.getElem?_cons_succ, List.getElem?_cons_zero]; rfl) (by kernel_rfl) (by kernel_rfl) (by kernel_rfl) (by exact fun _ _ _ h => h) (Or.inl ⟨by rfl, by intro w' hSw; (try dsimp only at hSw); first | (go_simp; done) | (go_simp; with_reducible rfl)⟩) hHeld ?_
              simp only [Act.put, List.setIfInBounds_toArray, List.set_cons_zero, List.set_cons_succ]
              refine wpAnyH_take (i := 8) (oi := _) (v := _) (by simp only [List.getElem?_toArray, List.getElem?_cons_succ, List.getElem?_cons_zero]; rfl) (by kernel_rfl) (by kernel_rfl) (by kernel_rfl) (by exact fun _ _ _ h => h) (Or.inl ⟨by rfl, by intro w' hSw; (try dsimp only at hSw); first | (go_simp; done) | (go_simp; with_reducible rfl)⟩) hHeld ?_
              simp only [Act.put, List.setIfInBounds_toArray, List.set_cons_zero, List.set_cons_succ]
              refine wpAnyH_ready (rs := [9]) (by kernel_rfl) (by simp) ?_
              refine AllReadyH.cons rfl (fun K hK => ?_) AllReadyH.nil
              go_simp
              go_wp2_with fail
              refine hK.out _ _ x7 (fun hHeld => ?_)
              clear hK K
              refine wpAnyH_done (by kernel_rfl) ?_ _
              clear hHeld
              go_wp2
              go_ret
              exact ⟨⟨_, _, rfl, HRS.out, HFI.out.1⟩, HFI.out.2⟩
      · rw [decide_eq_false hin] at HM
        have HST : Hid (LeaveAt w wr S b s mv hv t e → True) := fun _ => True.intro
        go_wp2_with fail
        refine wp_region_held_drew (S := fun W => W.cell? ⟨w.heap.size, 0, none⟩ = some (.pointer (some ⟨b, 0, none⟩)) ∧ W.cell? ⟨b, 2, none⟩ = some (.int .i64 e) ∧ W.cell? ⟨b, 0, none⟩ = some (.int .i64 s.last)) (by kernel_rfl) (by exact ⟨x0, y2, y0⟩) (fun hHeld => ?_)
        change wpAnyH _ _ _ _ _ 18 (Array.replicate 18 false) _ _
        refine wpAnyH_take (i := 0) (oi := _) (v := _) (by simp only [List.getElem?_toArray, List.getElem?_cons_zero]; rfl) (by kernel_rfl) (by kernel_rfl) (by kernel_rfl) (by exact fun _ _ _ h => h) (Or.inl ⟨by rfl, by intro w' hSw; (try dsimp only at hSw); first | (go_simp; done) | (go_simp; with_reducible rfl)⟩) hHeld ?_
        simp only [Act.put, List.setIfInBounds_toArray, List.set_cons_zero, List.set_cons_succ]
        refine wpAnyH_take (i := 1) (oi := _) (v := _) (by simp only [List.getElem?_toArray, List.getElem?_cons_succ, List.getElem?_cons_zero]; rfl) (by kernel_rfl) (by kernel_rfl) (by kernel_rfl) (by exact fun _ _ _ h => h) (Or.inl ⟨by rfl, by intro w' hSw; (try dsimp only at hSw); first | (go_simp; done) | (go_simp; with_reducible rfl)⟩) hHeld ?_
        simp only [Act.put, List.setIfInBounds_toArray, List.set_cons_zero, List.set_cons_succ]
        refine wpAnyH_take (i := 2) (oi := _) (v := _) (by simp only [List.getElem?_toArray, List.getElem?_cons_succ, List.getElem?_cons_zero]; rfl) (by kernel_rfl) (by kernel_rfl) (by kernel_rfl) (by exact fun _ _ _ h => h) (Or.inl ⟨by rfl, by intro w' hSw; (try dsimp only at hSw); first | (go_simp; done) | (go_simp; with_reducible rfl)⟩) hHeld ?_
        simp only [Act.put, List.setIfInBounds_toArray, List.set_cons_zero, List.set_cons_succ]
        refine wpAnyH_take (i := 3) (oi := _) (v := _) (by simp only [List.getElem?_toArray, List.getElem?_cons_succ, List.getElem?_cons_zero]; rfl) (by kernel_rfl) (by kernel_rfl) (by kernel_rfl) (by exact fun _ _ _ h => h) (Or.inl ⟨by rfl, by intro w' hSw; (try dsimp only at hSw); first | (go_simp; done) | (go_simp; with_reducible rfl)⟩) hHeld ?_
        simp only [Act.put, List.setIfInBounds_toArray, List.set_cons_zero, List.set_cons_succ]
        refine wpAnyH_take (i := 4) (oi := _) (v := _) (by simp only [List.getElem?_toArray, List.getElem?_cons_succ, List.getElem?_cons_zero]; rfl) (by kernel_rfl) (by kernel_rfl) (by kernel_rfl) (by exact fun _ _ _ h => h) (Or.inl ⟨by rfl, by intro w' hSw; (try dsimp only at hSw); first | (go_simp; done) | (go_simp; with_reducible rfl)⟩) hHeld ?_
        simp only [Act.put, List.setIfInBounds_toArray, List.set_cons_zero, List.set_cons_succ]
        refine wpAnyH_take (i := 5) (oi := _) (v := _) (by simp only [List.getElem?_toArray, List.getElem?_cons_succ, List.getElem?_cons_zero]; rfl) (by kernel_rfl) (by kernel_rfl) (by kernel_rfl) (by exact fun _ _ _ h => h) (Or.inl ⟨by rfl, by intro w' hSw; (try dsimp only at hSw); first | (go_simp; done) | (go_simp; with_reducible rfl)⟩) hHeld ?_
        simp only [Act.put, List.setIfInBounds_toArray, List.set_cons_zero, List.set_cons_succ]
        refine wpAnyH_take (i := 6) (oi := _) (v := _) (by simp only [List.getElem?_toArray, List.getElem?_cons_succ, List.getElem?_cons_zero]; rfl) (by kernel_rfl) (by kernel_rfl) (by kernel_rfl) (by exact fun _ _ _ h => h) (Or.inl ⟨by rfl, by intro w' hSw; (try dsimp only at hSw); first | (go_simp; done) | (go_simp; with_reducible rfl)⟩) hHeld ?_
        simp only [Act.put, List.setIfInBounds_toArray, List.set_cons_zero, List.set_cons_succ]
        refine wpAnyH_take (i := 7) (oi := _) (v := _) (by simp only [List.getElem?_toArray, List.getElem?_cons_succ, List.getElem?_cons_zero]; rfl) (by kernel_rfl) (by kernel_rfl) (by kernel_rfl) (by exact fun _ _ _ h => h) (Or.inl ⟨by rfl, by intro w' hSw; (try dsimp only at hSw); first | (go_simp; done) | (go_simp; with_reducible rfl)⟩) hHeld ?_
        simp only [Act.put, List.setIfInBounds_toArray, List.set_cons_zero, List.set_cons_succ]
        refine wpAnyH_take (i := 8) (oi := _) (v := _) (by simp only [List.getElem?_toArray, List.getElem?_cons_succ, List.getElem?_cons_zero]; rfl) (by kernel_rfl) (by kernel_rfl) (by kernel_rfl) (by exact fun _ _ _ h => h) (Or.inl ⟨by rfl, by intro w' hSw; (try dsimp only at hSw); first | (go_simp; done) | (go_simp; with_reducible rfl)⟩) hHeld ?_
        simp only [Act.put, List.setIfInBounds_toArray, List.set_cons_zero, List.set_cons_succ]
        refine wpAnyH_take (i := 9) (oi := _) (v := _) (by simp only [List.getElem?_toArray, List.getElem?_cons_succ, List.getElem?_cons_zero]; rfl) (by kernel_rfl) (by kernel_rfl) (by kernel_rfl) (by exact fun _ _ _ h => h) (Or.inl ⟨by rfl, by intro w' hSw; (try dsimp only at hSw); first | (go_simp; done) | (go_simp; with_reducible rfl)⟩) hHeld ?_
        simp only [Act.put, List.setIfInBounds_toArray, List.set_cons_zero, List.set_cons_succ]
        refine wpAnyH_take (i := 10) (oi := _) (v := _) (by simp only [List.getElem?_toArray, List.getElem?_cons_succ, List.getElem?_cons_zero]; rfl) (by kernel_rfl) (by kernel_rfl) (by kernel_rfl) (by exact fun _ _ _ h => h) (Or.inl ⟨by rfl, by intro w' hSw; (try dsimp only at hSw); first | (go_simp; done) | (go_simp; with_reducible rfl)⟩) hHeld ?_
        simp only [Act.put, List.setIfInBounds_toArray, List.set_cons_zero, List.set_cons_succ]
        refine wpAnyH_take (i := 11) (oi := _) (v := _) (by simp only [List.getElem?_toArray, List.getElem?_cons_succ, List.getElem?_cons_zero]; rfl) (by kernel_rfl) (by kernel_rfl) (by kernel_rfl) (by exact fun _ _ _ h => h) (Or.inl ⟨by rfl, by intro w' hSw; (try dsimp only at hSw); first | (go_simp; done) | (go_simp; with_reducible rfl)⟩) hHeld ?_
        simp only [Act.put, List.setIfInBounds_toArray, List.set_cons_zero, List.set_cons_succ]
        refine wpAnyH_take (i := 12) (oi := _) (v := _) (by simp only [List.getElem?_toArray, List.getElem?_cons_succ, List.getElem?_cons_zero]; rfl) (by kernel_rfl) (by kernel_rfl) (by kernel_rfl) (by exact fun _ _ _ h => h) (Or.inl ⟨by rfl, by intro w' hSw; (try dsimp only at hSw); first | (go_simp; done) | (go_simp; with_reducible rfl)⟩) hHeld ?_
        simp only [Act.put, List.setIfInBounds_toArray, List.set_cons_zero, List.set_cons_succ]
        refine wpAnyH_take (i := 13) (oi := _) (v := _) (by simp only [List.getElem?_toArray, List.getElem?_cons_succ, List.getElem?_cons_zero]; rfl) (by kernel_rfl) (by kernel_rfl) (by kernel_rfl) (by exact fun _ _ _ h => h) (Or.inl ⟨by rfl, by intro w' hSw; (try dsimp only at hSw); first | (go_simp; done) | (go_simp; with_reducible rfl)⟩) hHeld ?_
        simp only [Act.put, List.setIfInBounds_toArray, List.set_cons_zero, List.set_cons_succ]
        refine wpAnyH_take (i := 14) (oi := _) (v := _) (by simp only [List.getElem?_toArray, List.getElem?_cons_succ, List.getElem?_cons_zero]; rfl) (by kernel_rfl) (by kernel_rfl) (by kernel_rfl) (by exact fun _ _ _ h => h) (Or.inl ⟨by rfl, by intro w' hSw; (try dsimp only at hSw); first | (go_simp; done) | (go_simp; with_reducible rfl)⟩) hHeld ?_
        simp only [Act.put, List.setIfInBounds_toArray, List.set_cons_zero, List.set_cons_succ]
        refine wpAnyH_ready (rs := [15]) (by kernel_rfl) (by simp) ?_
        refine AllReadyH.cons rfl (fun K hK => ?_) AllReadyH.nil
        go_simp
        go_wp2_with fail
        refine HM.mono ?_
        rintro r w3 ⟨rfl, hb3⟩
        have HH3 : Hid (LeaveAt w w3 S b s mv hv t e) := (HH.out.below (Below.refl _ _).drew).below hb3
        have x3 := cell_of_heap HH3.out.box 0 _ rfl
        have y3 := cell_of_heap HH3.out.main 2 _ rfl
        have z3 := cell_of_heap HH3.out.main 0 _ rfl
        have f3 := free_of_heap HH3.out.main 2
        have HH4 : Hid (LeaveAt w (w3.setCell ⟨b, 2, none⟩ (.int .i64 (e + 1))) S b s mv hv t (e + 1)) := HH3.out.step hle hin HD.out.sb hbw
        have HMU2 : Hid (intOf (((w3.setCell ⟨b, 2, none⟩ (.int .i64 (e + 1))).cell? ⟨b, 2, none⟩).getD undef) = e + 1) := by show _ = _; rw [cell_of_heap HH4.out.main 2 _ rfl]; rfl
        have hwr : wrap64 (e + 1) = e + 1 := by unfold wrap64; omega
        refine hK.out _ _ ⟨x3, y3, z3⟩ (fun hHeld => ?_)
        clear hK K
        refine wpAnyH_take (i := 16) (oi := _) (v := _) (by simp only [List.getElem?_toArray, List.getElem?_cons_succ, List.getElem?_cons_zero]; rfl) (by kernel_rfl) (by kernel_rfl) (by kernel_rfl) (by exact fun _ _ _ h => h) (Or.inl ⟨by rfl, by intro w' hSw; (try dsimp only at hSw); first | (go_simp; done) | (go_simp; with_reducible rfl)⟩) hHeld ?_
        simp only [Act.put, List.setIfInBounds_toArray, List.set_cons_zero, List.set_cons_succ]
        refine wpAnyH_take (i := 17) (oi := _) (v := _) (by simp only [List.getElem?_toArray, List.getElem?_cons_succ, List.getElem?_cons_zero]; rfl) (by kernel_rfl) (by kernel_rfl) (by kernel_rfl) (by exact fun _ _ _ h => h) (Or.inl ⟨by rfl, by intro w' hSw; (try dsimp only at hSw); first | (go_simp; done) | (go_simp; with_reducible rfl)⟩) hHeld ?_
        simp only [Act.put, List.setIfInBounds_toArray, List.set_cons_zero, List.set_cons_succ]
        refine wpAnyH_done (by kernel_rfl) ?_ _
        clear hHeld
        go_wp2_with fail
        go_roundw
        case rel => exact ⟨e + 1, HH4.out⟩
        case measure => rw [HMU.out, HMU2.out]; omega
    · have hq : decide (e ≤ s.last) = false := decide_eq_false hle
      have HLO : Hid (lo (strike s.m t) s.last = e) := lo_eq (strike_asc t HOK.out.asc) (fun x hx => ⟨HH.out.el x hx, (HOK.out.inn x (mem_strike.1 hx).1).2.2⟩) (.inr (by omega))
      go_wp2_with fail
      refine wp_region_held_drew (S := fun W => W.cell? ⟨w.heap.size, 0, none⟩ = some (.pointer (some ⟨b, 0, none⟩)) ∧ W.cell? ⟨b, 2, none⟩ = some (.int .i64 e) ∧ W.cell? ⟨b, 0, none⟩ = some (.int .i64 s.last)) (by kernel_rfl) (by exact ⟨x0, y2, y0⟩) (fun hHeld => ?_)
      change wpAnyH _ _ _ _ _ 18 (Array.replicate 18 false) _ _
      refine wpAnyH_take (i := 0) (oi := _) (v := _) (by simp only [List.getElem?_toArray, List.getElem?_cons_zero]; rfl) (by kernel_rfl) (by kernel_rfl) (by kernel_rfl) (by exact fun _ _ _ h => h) (Or.inl ⟨by rfl, by intro w' hSw; (try dsimp only at hSw); first | (go_simp; done) | (go_simp; with_reducible rfl)⟩) hHeld ?_
      simp only [Act.put, List.setIfInBounds_toArray, List.set_cons_zero, List.set_cons_succ]
      refine wpAnyH_take (i := 1) (oi := _) (v := _) (by simp only [List.getElem?_toArray, List.getElem?_cons_succ, List.getElem?_cons_zero]; rfl) (by kernel_rfl) (by kernel_rfl) (by kernel_rfl) (by exact fun _ _ _ h => h) (Or.inl ⟨by rfl, by intro w' hSw; (try dsimp only at hSw); first | (go_simp; done) | (go_simp; with_reducible rfl)⟩) hHeld ?_
      simp only [Act.put, List.setIfInBounds_toArray, List.set_cons_zero, List.set_cons_succ]
      refine wpAnyH_take (i := 2) (oi := _) (v := _) (by simp only [List.getElem?_toArray, List.getElem?_cons_succ, List.getElem?_cons_zero]; rfl) (by kernel_rfl) (by kernel_rfl) (by kernel_rfl) (by exact fun _ _ _ h => h) (Or.inl ⟨by rfl, by intro w' hSw; (try dsimp only at hSw); first | (go_simp; done) | (go_simp; with_reducible rfl)⟩) hHeld ?_
      simp only [Act.put, List.setIfInBounds_toArray, List.set_cons_zero, List.set_cons_succ]
      refine wpAnyH_take (i := 3) (oi := _) (v := _) (by simp only [List.getElem?_toArray, List.getElem?_cons_succ, List.getElem?_cons_zero]; rfl) (by kernel_rfl) (by kernel_rfl) (by kernel_rfl) (by exact fun _ _ _ h => h) (Or.inl ⟨by rfl, by intro w' hSw; (try dsimp only at hSw); first | (go_simp; done) | (go_simp; with_reducible rfl)⟩) hHeld ?_
      simp only [Act.put, List.setIfInBounds_toArray, List.set_cons_zero, List.set_cons_succ]
      refine wpAnyH_take (i := 4) (oi := _) (v := _) (by simp only [List.getElem?_toArray, List.getElem?_cons_succ, List.getElem?_cons_zero]; rfl) (by kernel_rfl) (by kernel_rfl) (by kernel_rfl) (by exact fun _ _ _ h => h) (Or.inl ⟨by rfl, by intro w' hSw; (try dsimp only at hSw); first | (go_simp; done) | (go_simp; with_reducible rfl)⟩) hHeld ?_
      simp only [Act.put, List.setIfInBounds_toArray, List.set_cons_zero, List.set_cons_succ]
      refine wpAnyH_take (i := 5) (oi := _) (v := _) (by simp only [List.getElem?_toArray, List.getElem?_cons_succ, List.getElem?_cons_zero]; rfl) (by kernel_rfl) (by kernel_rfl) (by kernel_rfl) (by exact fun _ _ _ h => h) (Or.inl ⟨by rfl, by intro w' hSw; (try dsimp only at hSw); first | (go_simp; done) | (go_simp; with_reducible rfl)⟩) hHeld ?_
      simp only [Act.put, List.setIfInBounds_toArray, List.set_cons_zero, List.set_cons_succ]
      refine wpAnyH_take (i := 6) (oi := _) (v := _) (by simp only [List.getElem?_toArray, List.getElem?_cons_succ, List.getElem?_cons_zero]; rfl) (by kernel_rfl) (by kernel_rfl) (by kernel_rfl) (by exact fun _ _ _ h => h) (Or.inl ⟨by rfl, by intro w' hSw; (try dsimp only at hSw); first | (go_simp; done) | (go_simp; with_reducible rfl)⟩) hHeld ?_
      simp only [Act.put, List.setIfInBounds_toArray, List.set_cons_zero, List.set_cons_succ]
      refine wpAnyH_take (i := 7) (oi := _) (v := _) (by simp only [List.getElem?_toArray, List.getElem?_cons_succ, List.getElem?_cons_zero]; rfl) (by kernel_rfl) (by kernel_rfl) (by kernel_rfl) (by exact fun _ _ _ h => h) (Or.inl ⟨by rfl, by intro w' hSw; (try dsimp only at hSw); first | (go_simp; done) | (go_simp; with_reducible rfl)⟩) hHeld ?_
      simp only [Act.put, List.setIfInBounds_toArray, List.set_cons_zero, List.set_cons_succ]
      refine wpAnyH_take (i := 8) (oi := _) (v := _) (by simp only [List.getElem?_toArray, List.getElem?_cons_succ, List.getElem?_cons_zero]; rfl) (by kernel_rfl) (by kernel_rfl) (by kernel_rfl) (by exact fun _ _ _ h => h) (Or.inl ⟨by rfl, by intro w' hSw; (try dsimp only at hSw); first | (go_simp; done) | (go_simp; with_reducible rfl)⟩) hHeld ?_
      simp only [Act.put, List.setIfInBounds_toArray, List.set_cons_zero, List.set_cons_succ]
      refine wpAnyH_take (i := 9) (oi := _) (v := _) (by simp only [List.getElem?_toArray, List.getElem?_cons_succ, List.getElem?_cons_zero]; rfl) (by kernel_rfl) (by kernel_rfl) (by kernel_rfl) (by exact fun _ _ _ h => h) (Or.inl ⟨by rfl, by intro w' hSw; (try dsimp only at hSw); first | (go_simp; done) | (go_simp; with_reducible rfl)⟩) hHeld ?_
      simp only [Act.put, List.setIfInBounds_toArray, List.set_cons_zero, List.set_cons_succ]
      refine wpAnyH_take (i := 10) (oi := _) (v := undef) (by simp only [List.getElem?_toArray, List.getElem?_cons_succ, List.getElem?_cons_zero]; rfl) (by kernel_rfl) (by kernel_rfl) (by kernel_rfl) (by exact fun _ _ _ h => h) (Or.inr ⟨by rfl, rfl⟩) hHeld ?_
      simp only [Act.put, List.setIfInBounds_toArray, List.set_cons_zero, List.set_cons_succ]
      refine wpAnyH_take (i := 11) (oi := _) (v := undef) (by simp only [List.getElem?_toArray, List.getElem?_cons_succ, List.getElem?_cons_zero]; rfl) (by kernel_rfl) (by kernel_rfl) (by kernel_rfl) (by exact fun _ _ _ h => h) (Or.inr ⟨by rfl, rfl⟩) hHeld ?_
      simp only [Act.put, List.setIfInBounds_toArray, List.set_cons_zero, List.set_cons_succ]
      refine wpAnyH_take (i := 12) (oi := _) (v := undef) (by simp only [List.getElem?_toArray, List.getElem?_cons_succ, List.getElem?_cons_zero]; rfl) (by kernel_rfl) (by kernel_rfl) (by kernel_rfl) (by exact fun _ _ _ h => h) (Or.inr ⟨by rfl, rfl⟩) hHeld ?_
      simp only [Act.put, List.setIfInBounds_toArray, List.set_cons_zero, List.set_cons_succ]
      refine wpAnyH_take (i := 13) (oi := _) (v := undef) (by simp only [List.getElem?_toArray, List.getElem?_cons_succ, List.getElem?_cons_zero]; rfl) (by kernel_rfl) (by kernel_rfl) (by kernel_rfl) (by exact fun _ _ _ h => h) (Or.inr ⟨by rfl, rfl⟩) hHeld ?_
      simp only [Act.put, List.setIfInBounds_toArray, List.set_cons_zero, List.set_cons_succ]
      refine wpAnyH_take (i := 14) (oi := _) (v := undef) (by simp only [List.getElem?_toArray, List.getElem?_cons_succ, List.getElem?_cons_zero]; rfl) (by kernel_rfl) (by kernel_rfl) (by kernel_rfl) (by exact fun _ _ _ h => h) (Or.inr ⟨by rfl, rfl⟩) hHeld ?_
      simp only [Act.put, List.setIfInBounds_toArray, List.set_cons_zero, List.set_cons_succ]
      refine wpAnyH_take (i := 15) (oi := _) (v := undef) (by simp only [List.getElem?_toArray, List.getElem?_cons_succ, List.getElem?_cons_zero]; rfl) (by kernel_rfl) (by kernel_rfl) (by kernel_rfl) (by exact fun _ _ _ h => h) (Or.inr ⟨by rfl, rfl⟩) hHeld ?_
      simp only [Act.put, List.setIfInBounds_toArray, List.set_cons_zero, List.set_cons_succ]
      refine wpAnyH_take (i := 16) (oi := _) (v := undef) (by simp only [List.getElem?_toArray, List.getElem?_cons_succ, List.getElem?_cons_zero]; rfl) (by kernel_rfl) (by kernel_rfl) (by kernel_rfl) (by exact fun _ _ _ h => h) (Or.inr ⟨by rfl, rfl⟩) hHeld ?_
      simp only [Act.put, List.setIfInBounds_toArray, List.set_cons_zero, List.set_cons_succ]
      refine wpAnyH_take (i := 17) (oi := _) (v := _) (by simp only [List.getElem?_toArray, List.getElem?_cons_succ, List.getElem?_cons_zero]; rfl) (by kernel_rfl) (by kernel_rfl) (by kernel_rfl) (by exact fun _ _ _ h => h) (Or.inl ⟨by rfl, by intro w' hSw; (try dsimp only at hSw); first | (go_simp; done) | (go_simp; with_reducible rfl)⟩) hHeld ?_
      simp only [Act.put, List.setIfInBounds_toArray, List.set_cons_zero, List.set_cons_succ]
      refine wpAnyH_done (by kernel_rfl) ?_ _
      clear hHeld
      obtain ⟨w3, hw3⟩ : ∃ w3, w3 = wr.drew := ⟨_, rfl⟩
      rw [← hw3]
      have HH3 : Hid (LeaveAt w w3 S b s mv hv t e) := by rw [hw3]; exact HH.out.below (Below.refl _ _).drew
      clear hw3
      have x4 := cell_of_heap HH3.out.box 0 _ rfl
      have y4 := cell_of_heap HH3.out.main 3 _ rfl
      have y5 := cell_of_heap HH3.out.main 2 _ rfl
      have hll := HOK.out.len
      have HI := index_any (w := w3) hv s.l e w.heap.size b HH3.out.row (by omega) x4 y5
      rcases HH3.out.row.two with ⟨rfl, h0⟩ | ⟨g, off, cap, rfl, hc1, hc2⟩
      · go_wp2_with fail
        refine HI.mono ?_
        clear HI
        rintro r w4 ⟨hr, hb4⟩
        rcases hr with ⟨k, hk, _, _⟩ | ⟨rfl, hfn⟩
        · omega
        have HH5 : Hid (LeaveAt w w4 S b s mv (.slice none 0 0) t e) := HH3.out.below hb4
        have x5 := cell_of_heap HH5.out.box 0 _ rfl
        have z5 := cell_of_heap HH5.out.main 3 _ rfl
        have HTH := things_any (w := w4) (.slice none 0 0) s.l HH5.out.row (by omega)
        go_wp2_with fail
        refine HTH.mono ?_
        clear HTH
        rintro r w5 ⟨v5, rfl, ht5, hb5⟩
        have HH6 : Hid (LeaveAt w w5 S b s mv (.slice none 0 0) t e) := HH5.out.below hb5
        have x6 := cell_of_heap HH6.out.box 0 _ rfl
        have z6 := cell_of_heap HH6.out.main 3 _ rfl
        have f6 := free_of_heap HH6.out.main 3
        have hl0 : s.l = [] := List.eq_nil_of_length_eq_zero h0
        have hz7 := (heap_setCell_other w5 ⟨b, 3, none⟩ w.heap.size (.slice none 0 0) (by show w.heap.size ≠ b; omega)).trans HH6.out.box
        have x7 := cell_of_heap hz7 0 _ rfl
        have HFN := leave_fin (w6 := w5) (hv' := .slice none 0 0) HH6.out.main HH6.out.mp (by rw [hl0]; exact ⟨rfl, .inl ⟨rfl, rfl⟩⟩) HH6.out.turn (fun g hg => by cases hg) HLO.out hfn HD.out
        have HRS : Hid (TRow (w5.setCell ⟨b, 3, none⟩ (.slice none 0 0)).drew w.heap.size v5 (leaveL s t)) := by
          show TRow _ _ _ ((s.l.take (freeN s.l (lo (strike s.m t) s.last))).map Prod.fst)
          rw [HLO.out, hfn, List.take_length]
          refine TRow.keep (TRow.base ht5 HH5.out.turn.size) (fun g hg => heap_setCell_other w5 ⟨b, 3, none⟩ g _ (by have := ht5.ge g hg; have := HH5.out.turn.size; show g ≠ b; omega))
        have HFI : Hid (HoldIn (w5.setCell ⟨b, 3, none⟩ (.slice none 0 0)).drew S b (leaveF s t) mv (.slice none 0 0) ∧ Turn S w (w5.setCell ⟨b, 3, none⟩ (.slice none 0 0)).drew) := HFN
        obtain ⟨va, vc, hv5⟩ := ht5.slice
        rw [List.length_map, h0] at hv5
        subst hv5
        clear HFN hb5 hz7 hb4
        have hcln := clear_none
        go_wp2_with fail
        clear hcln
        refine wp_region_held_drew (S := fun W => W.cell? ⟨w.heap.size, 0, none⟩ = some (.pointer (some ⟨b, 0, none⟩))) (by kernel_rfl) (by exact x6) (fun hHeld => ?_)
        change wpAnyH _ _ _ _ _ 10 (Array.replicate 10 false) _ _
        refine wpAnyH_take (i := 0) (oi := _) (v := _) (by simp only [List.getElem?_toArray, List.getElem?_cons_zero]; rfl) (by kernel_rfl) (by kernel_rfl) (by kernel_rfl) (by exact fun _ _ _ h => h) (Or.inl ⟨by rfl, by intro w' hSw; (try dsimp only at hSw); first | (go_simp; done) | (go_simp; with_reducible rfl)⟩) hHeld ?_
        simp only [Act.put, List.setIfInBounds_toArray, List.set_cons_zero, List.set_cons_succ]
        refine wpAnyH_take (i := 1) (oi := _) (v := _) (by simp only [List.getElem?_toArray, List.getElem?_cons_succ, List.getElem?_cons_zero]; rfl) (by kernel_rfl) (by kernel_rfl) (by kernel_rfl) (by exact fun _ _ _ h => h) (Or.inl ⟨by rfl, by intro w' hSw; (try dsimp only at hSw); first | (go_simp; done) | (go_simp; with_reducible rfl)⟩) hHeld ?_
        simp only [Act.put, List.setIfInBounds_toArray, List.set_cons_zero, List.set_cons_succ]
        refine wpAnyH_take (i := 2) (oi := _) (v := _) (by simp only [List.getElem?_toArray, List.getElem?_cons_succ, List.getElem?_cons_zero]; rfl) (by kernel_rfl) (by kernel_rfl) (by kernel_rfl) (by exact fun _ _ _ h => h) (Or.inl ⟨by rfl, by intro w' hSw; (try dsimp only at hSw); first | (go_simp; done) | (go_simp; with_reducible rfl)⟩) hHeld ?_
        simp only [Act.put, List.setIfInBounds_toArray, List.set_cons_zero, List.set_cons_succ]
        refine wpAnyH_take (i := 3) (oi := _) (v := _) (by simp only [List.getElem?_toArray, List.getElem?_cons_succ, List.getElem?_cons_zero]; rfl) (by kernel_rfl) (by kernel_rfl) (by kernel_rfl) (by exact fun _ _ _ h => h) (Or.inl ⟨by rfl, by intro w' hSw; (try dsimp only at hSw); first | (go_simp; done) | (go_simp; with_reducible rfl)⟩) hHeld ?_
        simp only [Act.put, List.setIfInBounds_toArray, List.set_cons_zero, List.set_cons_succ]
        refine wpAnyH_take (i := 5) (oi := _) (v := _) (by simp only [List.getElem?_toArray, List.getElem?_cons_succ, List.getElem?_cons_zero]; rfl) (by kernel_rfl) (by kernel_rfl) (by kernel_rfl) (by exact fun _ _ _ h => h) (Or.inl ⟨by rfl, by intro w' hSw; (try dsimp only at hSw); first | (go_simp; done) | (go_simp; with_reducible rfl)⟩) hHeld ?_
        simp only [Act.put, List.setIfInBounds_toArray, List.set_cons_zero, List.set_cons_succ]
        refine wpAnyH_ready (rs := [4]) (by kernel_rfl) (by simp) ?_
        refine AllReadyH.cons rfl (fun K hK => ?_) AllReadyH.nil
        go_simp
        go_wp2_with fail
        refine hK.out _ _ x6 (fun hHeld => ?_)
        clear hK K
        refine wpAnyH_take (i := 6) (oi := _) (v := _) (by simp only [List.getElem?_toArray, List.getElem?_cons_succ, List.getElem?_cons_zero]; rfl) (by kernel_rfl) (by kernel_rfl) (by kernel_rfl) (by exact fun _ _ _ h => h) (Or.inl ⟨by rfl, by intro w' hSw; (try dsimp only at hSw); first | (go_simp; done) | (go_simp; with_reducible rfl)⟩) hHeld ?_
        simp only [Act.put, List.setIfInBounds_toArray, List.set_cons_zero, List.set_cons_succ]
        refine wpAnyH_take (i := 7) (oi := _) (v := _) (by simp only [List.getElem?_toArray, List.getElem?_cons_succ, List.getElem?_cons_zero]; rfl) (by kernel_rfl) (by kernel_rfl) (by kernel_rfl) (by exact fun _ _ _ h => h) (Or.inl ⟨by rfl, by intro w' hSw; (try dsimp only at hSw); first | (go_simp; done) | (go_simp; with_reducible rfl)⟩) hHeld ?_
        simp only [Act.put, List.setIfInBounds_toArray, List.set_cons_zero, List.set_cons_succ]
        refine wpAnyH_take (i := 8) (oi := _) (v := _) (by simp only [List.getElem?_toArray, List.getElem?_cons_succ, List.getElem?_cons_zero]; rfl) (by kernel_rfl) (by kernel_rfl) (by kernel_rfl) (by exact fun _ _ _ h => h) (Or.inl ⟨by rfl, by intro w' hSw; (try dsimp only at hSw); first | (go_simp; done) | (go_simp; with_reducible rfl)⟩) hHeld ?_
        simp only [Act.put, List.setIfInBounds_toArray, List.set_cons_zero, List.set_cons_succ]
        refine wpAnyH_ready (rs := [9]) (by kernel_rfl) (by simp) ?_
        refine AllReadyH.cons rfl (fun K hK => ?_) AllReadyH.nil
        go_simp
        go_wp2_with fail
        refine hK.out _ _ x7 (fun hHeld => ?_)
        clear hK K
        refine wpAnyH_done (by kernel_rfl) ?_ _
        clear hHeld
        go_wp2
        go_ret
        exact ⟨⟨_, _, rfl, HRS.out, HFI.out.1⟩, HFI.out.2⟩
      · have hcS : S g := HD.out.sr g rfl
        go_wp2_with fail
        refine HI.mono ?_
        clear HI
        rintro r w4 ⟨hr, hb4⟩
        have HH5 : Hid (LeaveAt w w4 S b s mv (.slice (some ⟨g, off, none⟩) s.l.length cap) t e) := HH3.out.below hb4
        have x5 := cell_of_heap HH5.out.box 0 _ rfl
        have z5 := cell_of_heap HH5.out.main 3 _ rfl
        rcases hr with ⟨k, hk, rfl, hfn⟩ | ⟨rfl, hfn⟩
        · have hkl : k ≤ s.l.length := by omega
          have HTH := things_any (w := w4) (.slice (some ⟨g, off, none⟩) (k) cap) (s.l.take (k)) (HH5.out.row.pre rfl _ hkl) (by rw [List.length_take]; omega)
          have hkc : (k) ≤ cap := by omega
          go_wp2_with fail
          refine HTH.mono ?_
          clear HTH
          rintro r w5 ⟨v5, rfl, ht5, hb5⟩
          have HH6 : Hid (LeaveAt w w5 S b s mv (.slice (some ⟨g, off, none⟩) s.l.length cap) t e) := HH5.out.below hb5
          obtain ⟨w6, hclr, ho6, hg6, hs6⟩ := run_clear_o (P := Try.prog) w5 73 104 (.agg #[.string ⟨#[]⟩, .int .i64 0]) _ _ Try.underlying73 zeroD rfl rfl rfl g off s.l.length cap (k) (dcells s.l) HH6.out.row hkl
          have hr6 := DRow.rest ho6 rfl hkl hc1
          have hgb : g ≠ b := row_ne HH6.out.row HH6.out.main g rfl
          have hgz : g ≠ w.heap.size := row_ne2 HH6.out.row HH6.out.box g rfl
          have hg4 : g < w4.heap.size := ORow.lt HH5.out.row g rfl
          have hm6 := (hg6.block b (lt_of_heap HH6.out.main) (fun e => hgb (by injection e with e; exact e.symm))).trans HH6.out.main
          have hx6 := (hg6.block _ (lt_of_heap HH6.out.box) (fun e => hgz (by injection e with e; exact e.symm))).trans HH6.out.box
          have hp6 := HH6.out.mp.keep (w' := w6) (fun g' hg' => hg6.block g' (HH6.out.mp.lt g' hg') (fun e => by
            injection e with e
            subst e
            obtain ⟨es, c, hh⟩ := HH6.out.mp.map _ hg'
            obtain ⟨c', hh'⟩ := ORow.type HH6.out.row _ rfl
            rw [hh] at hh'
            cases hh'))
          have ht6 : Turn S w w6 := HH6.out.turn.trans (Turn.grown hg6 (fun g' e => by cases e; exact .inl hcS))
          have x5' := cell_of_heap HH6.out.box 0 _ rfl
          have z5' := cell_of_heap HH6.out.main 3 _ rfl
          have x6 := cell_of_heap hx6 0 _ rfl
          have z6 := cell_of_heap hm6 3 _ rfl
          have f6 := free_of_heap hm6 3
          have HRS0 : TRow w6 w.heap.size v5 (leaveL s t) := by
            show TRow _ _ _ ((s.l.take (freeN s.l (lo (strike s.m t) s.last))).map Prod.fst)
            rw [HLO.out, hfn]
            exact TRow.keep (TRow.base ht5 HH5.out.turn.size) (fun g' hg' => hg6.block g' (ht5.lt g' hg') (fun e => by injection e with e; have := ht5.ge g' hg'; omega))
          obtain ⟨sa, hsa⟩ : ∃ sa, sa = (if cap = (k) then some (⟨g, off, none⟩ : Addr) else some ⟨g, off + (k) * 2, none⟩) := ⟨_, rfl⟩
          rw [← hsa] at hr6
          have hsb : ∀ g', (Value.slice sa (s.l.length - (k)) (cap - (k))).ownBlock = some g' → S g' ∧ g' ≠ b := fun g' hg' => by
            rw [hsa] at hg'
            by_cases hck : cap = (k)
            · rw [if_pos hck] at hg'
              cases hg'
              exact ⟨hcS, hgb⟩
            · rw [if_neg hck] at hg'
              cases hg'
              exact ⟨hcS, hgb⟩
          have hz7 := (heap_setCell_other w6 ⟨b, 3, none⟩ w.heap.size (.slice sa (s.l.length - (k)) (cap - (k))) (by show w.heap.size ≠ b; omega)).trans hx6
          have x7 := cell_of_heap hz7 0 _ rfl
          have HFI : Hid (HoldIn (w6.setCell ⟨b, 3, none⟩ (.slice sa (s.l.length - (k)) (cap - (k)))).drew S b (leaveF s t) mv (.slice sa (s.l.length - (k)) (cap - (k))) ∧ Turn S w (w6.setCell ⟨b, 3, none⟩ (.slice sa (s.l.length - (k)) (cap - (k)))).drew) :=
            leave_fin (w6 := w6) hm6 hp6 hr6 ht6 hsb HLO.out hfn HD.out
          have HRS : Hid (TRow (w6.setCell ⟨b, 3, none⟩ (.slice sa (s.l.length - (k)) (cap - (k)))).drew w.heap.size v5 (leaveL s t)) :=
            HRS0.keep (fun g' hg' => heap_setCell_other w6 ⟨b, 3, none⟩ g' _ (by have := HRS0.ge g' hg'; show g' ≠ b; omega))
          obtain ⟨va, vc, hv5⟩ := ht5.slice
          rw [List.length_map, List.length_take, Nat.min_eq_left hkl] at hv5
          subst hv5
          rw [if_neg (by omega : ¬ cap = k)] at hsa; subst hsa
          clear HRS0 hp6 hr6 ho6 hg6 hs6 hb5 hb4 hm6 hx6 hsb hz7 ht6
          go_wp2_with fail
          clear hclr
          refine wp_region_held_drew (S := fun W => W.cell? ⟨w.heap.size, 0, none⟩ = some (.pointer (some ⟨b, 0, none⟩))) (by kernel_rfl) (by exact x6) (fun hHeld => ?_)
          change wpAnyH _ _ _ _ _ 10 (Array.replicate 10 false) _ _
          refine wpAnyH_take (i := 0) (oi := _) (v := _) (by simp only [List.getElem?_toArray, List.getElem?_cons_zero]; rfl) (by kernel_rfl) (by kernel_rfl) (by kernel_rfl) (by exact fun _ _ _ h => h) (Or.inl ⟨by rfl, by intro w' hSw; (try dsimp only at hSw); first | (go_simp; done) | (go_simp; with_reducible rfl)⟩) hHeld ?_
          simp only [Act.put, List.setIfInBounds_toArray, List.set_cons_zero, List.set_cons_succ]
          refine wpAnyH_take (i := 1) (oi := _) (v := _) (by simp only [List.getElem?_toArray, List.getElem?_cons_succ, List.getElem?_cons_zero]; rfl) (by kernel_rfl) (by kernel_rfl) (by kernel_rfl) (by exact fun _ _ _ h => h) (Or.inl ⟨by rfl, by intro w' hSw; (try dsimp only at hSw); first | (go_simp; done) | (go_simp; with_reducible rfl)⟩) hHeld ?_
          simp only [Act.put, List.setIfInBounds_toArray, List.set_cons_zero, List.set_cons_succ]
          refine wpAnyH_take (i := 2) (oi := _) (v := _) (by simp only [List.getElem?_toArray, List.getElem?_cons_succ, List.getElem?_cons_zero]; rfl) (by kernel_rfl) (by kernel_rfl) (by kernel_rfl) (by exact fun _ _ _ h => h) (Or.inl ⟨by rfl, by intro w' hSw; (try dsimp only at hSw); first | (go_simp; done) | (go_simp; with_reducible rfl)⟩) hHeld ?_
          simp only [Act.put, List.setIfInBounds_toArray, List.set_cons_zero, List.set_cons_succ]
          refine wpAnyH_take (i := 3) (oi := _) (v := _) (by simp only [List.getElem?_toArray, List.getElem?_cons_succ, List.getElem?_cons_zero]; rfl) (by kernel_rfl) (by kernel_rfl) (by kernel_rfl) (by exact fun _ _ _ h => h) (Or.inl ⟨by rfl, by intro w' hSw; (try dsimp only at hSw); first | (go_simp; done) | (go_simp; with_reducible rfl)⟩) hHeld ?_
          simp only [Act.put, List.setIfInBounds_toArray, List.set_cons_zero, List.set_cons_succ]
          refine wpAnyH_take (i := 5) (oi := _) (v := _) (by simp only [List.getElem?_toArray, List.getElem?_cons_succ, List.getElem?_cons_zero]; rfl) (by kernel_rfl) (by kernel_rfl) (by kernel_rfl) (by exact fun _ _ _ h => h) (Or.inl ⟨by rfl, by intro w' hSw; (try dsimp only at hSw); first | (go_simp; done) | (go_simp; with_reducible rfl)⟩) hHeld ?_
          simp only [Act.put, List.setIfInBounds_toArray, List.set_cons_zero, List.set_cons_succ]
          refine wpAnyH_ready (rs := [4]) (by kernel_rfl) (by simp) ?_
          refine AllReadyH.cons rfl (fun K hK => ?_) AllReadyH.nil
          go_simp
          go_wp2_with fail
          refine hK.out _ _ x6 (fun hHeld => ?_)
          clear hK K
          refine wpAnyH_take (i := 6) (oi := _) (v := _) (by simp only [List.getElem?_toArray, List.getElem?_cons_succ, List.getElem?_cons_zero]; rfl) (by kernel_rfl) (by kernel_rfl) (by kernel_rfl) (by exact fun _ _ _ h => h) (Or.inl ⟨by rfl, by intro w' hSw; (try dsimp only at hSw); first | (go_simp; done) | (go_simp; with_reducible rfl)⟩) hHeld ?_
          simp only [Act.put, List.setIfInBounds_toArray, List.set_cons_zero, List.set_cons_succ]
          refine wpAnyH_take (i := 7) (oi := _) (v := _) (by simp only [List.getElem?_toArray, List.getElem?_cons_succ, List.getElem?_cons_zero]; rfl) (by kernel_rfl) (by kernel_rfl) (by kernel_rfl) (by exact fun _ _ _ h => h) (Or.inl ⟨by rfl, by intro w' hSw; (try dsimp only at hSw); first | (go_simp; done) | (go_simp; with_reducible rfl)⟩) hHeld ?_
          simp only [Act.put, List.setIfInBounds_toArray, List.set_cons_zero, List.set_cons_succ]
          refine wpAnyH_take (i := 8) (oi := _) (v := _) (by simp only [List.getElem?_toArray, List.getElem?_cons_succ, List.getElem?_cons_zero]; rfl) (by kernel_rfl) (by kernel_rfl) (by kernel_rfl) (by exact fun _ _ _ h => h) (Or.inl ⟨by rfl, by intro w' hSw; (try dsimp only at hSw); first | (go_simp; done) | (go_simp; with_reducible rfl)⟩) hHeld ?_
          simp only [Act.put, List.setIfInBounds_toArray, List.set_cons_zero, List.set_cons_succ]
          refine wpAnyH_ready (rs := [9]) (by kernel_rfl) (by simp) ?_
          refine AllReadyH.cons rfl (fun K hK => ?_) AllReadyH.nil
          go_simp
          go_wp2_with fail
          refine hK.out _ _ x7 (fun hHeld => ?_)
          clear hK K
          refine wpAnyH_done (by kernel_rfl) ?_ _
          clear hHeld
          go_wp2
          go_ret
          exact ⟨⟨_, _, rfl, HRS.out, HFI.out.1⟩, HFI.out.2⟩
        · have hkl : s.l.length ≤ s.l.length := Nat.le_refl _
          by_cases hcl : cap = s.l.length
          · subst hcl
            have HTH := things_any (w := w4) (.slice (some ⟨g, off, none⟩) (s.l.length) s.l.length) (s.l.take (s.l.length)) (HH5.out.row.pre rfl _ hkl) (by rw [List.length_take]; omega)
            have hkc : (s.l.length) ≤ s.l.length := by omega
            go_wp2_with fail
            refine HTH.mono ?_
            clear HTH
            rintro r w5 ⟨v5, rfl, ht5, hb5⟩
            have HH6 : Hid (LeaveAt w w5 S b s mv (.slice (some ⟨g, off, none⟩) s.l.length s.l.length) t e) := HH5.out.below hb5
            obtain ⟨w6, hclr, ho6, hg6, hs6⟩ := run_clear_o (P := Try.prog) w5 73 104 (.agg #[.string ⟨#[]⟩, .int .i64 0]) _ _ Try.underlying73 zeroD rfl rfl rfl g off s.l.length s.l.length (s.l.length) (dcells s.l) HH6.out.row hkl
            have hr6 := DRow.rest ho6 rfl hkl hc1
            have hgb : g ≠ b := row_ne HH6.out.row HH6.out.main g rfl
            have hgz : g ≠ w.heap.size := row_ne2 HH6.out.row HH6.out.box g rfl
            have hg4 : g < w4.heap.size := ORow.lt HH5.out.row g rfl
            have hm6 := (hg6.block b (lt_of_heap HH6.out.main) (fun e => hgb (by injection e with e; exact e.symm))).trans HH6.out.main
            have hx6 := (hg6.block _ (lt_of_heap HH6.out.box) (fun e => hgz (by injection e with e; exact e.symm))).trans HH6.out.box
            have hp6 := HH6.out.mp.keep (w' := w6) (fun g' hg' => hg6.block g' (HH6.out.mp.lt g' hg') (fun e => by
              injection e with e
              subst e
              obtain ⟨es, c, hh⟩ := HH6.out.mp.map _ hg'
              obtain ⟨c', hh'⟩ := ORow.type HH6.out.row _ rfl
              rw [hh] at hh'
              cases hh'))
            have ht6 : Turn S w w6 := HH6.out.turn.trans (Turn.grown hg6 (fun g' e => by cases e; exact .inl hcS))
            have x5' := cell_of_heap HH6.out.box 0 _ rfl
            have z5' := cell_of_heap HH6.out.main 3 _ rfl
            have x6 := cell_of_heap hx6 0 _ rfl
            have z6 := cell_of_heap hm6 3 _ rfl
            have f6 := free_of_heap hm6 3
            have HRS0 : TRow w6 w.heap.size v5 (leaveL s t) := by
              show TRow _ _ _ ((s.l.take (freeN s.l (lo (strike s.m t) s.last))).map Prod.fst)
              rw [HLO.out, hfn]
              exact TRow.keep (TRow.base ht5 HH5.out.turn.size) (fun g' hg' => hg6.block g' (ht5.lt g' hg') (fun e => by injection e with e; have := ht5.ge g' hg'; omega))
            obtain ⟨sa, hsa⟩ : ∃ sa, sa = (if s.l.length = (s.l.length) then some (⟨g, off, none⟩ : Addr) else some ⟨g, off + (s.l.length) * 2, none⟩) := ⟨_, rfl⟩
            rw [← hsa] at hr6
            have hsb : ∀ g', (Value.slice sa (s.l.length - (s.l.length)) (s.l.length - (s.l.length))).ownBlock = some g' → S g' ∧ g' ≠ b := fun g' hg' => by
              rw [hsa] at hg'
              by_cases hck : s.l.length = (s.l.length)
              · rw [if_pos hck] at hg'
                cases hg'
                exact ⟨hcS, hgb⟩
              · rw [if_neg hck] at hg'
                cases hg'
                exact ⟨hcS, hgb⟩
            have hz7 := (heap_setCell_other w6 ⟨b, 3, none⟩ w.heap.size (.slice sa (s.l.length - (s.l.length)) (s.l.length - (s.l.length))) (by show w.heap.size ≠ b; omega)).trans hx6
            have x7 := cell_of_heap hz7 0 _ rfl
            have HFI : Hid (HoldIn (w6.setCell ⟨b, 3, none⟩ (.slice sa (s.l.length - (s.l.length)) (s.l.length - (s.l.length)))).drew S b (leaveF s t) mv (.slice sa (s.l.length - (s.l.length)) (s.l.length - (s.l.length))) ∧ Turn S w (w6.setCell ⟨b, 3, none⟩ (.slice sa (s.l.length - (s.l.length)) (s.l.length - (s.l.length)))).drew) :=
              leave_fin (w6 := w6) hm6 hp6 hr6 ht6 hsb HLO.out hfn HD.out
            have HRS : Hid (TRow (w6.setCell ⟨b, 3, none⟩ (.slice sa (s.l.length - (s.l.length)) (s.l.length - (s.l.length)))).drew w.heap.size v5 (leaveL s t)) :=
              HRS0.keep (fun g' hg' => heap_setCell_other w6 ⟨b, 3, none⟩ g' _ (by have := HRS0.ge g' hg'; show g' ≠ b; omega))
            obtain ⟨va, vc, hv5⟩ := ht5.slice
            rw [List.length_map, List.length_take, Nat.min_eq_left hkl] at hv5
            subst hv5
            rw [if_pos rfl] at hsa; subst hsa; rw [Nat.sub_self] at HFI HRS x7
            clear HRS0 hp6 hr6 ho6 hg6 hs6 hb5 hb4 hm6 hx6 hsb hz7 ht6
            go_wp2_with fail
            clear hclr
            refine wp_region_held_drew (S := fun W => W.cell? ⟨w.heap.size, 0, none⟩ = some (.pointer (some ⟨b, 0, none⟩))) (by kernel_rfl) (by exact x6) (fun hHeld => ?_)
            change wpAnyH _ _ _ _ _ 10 (Array.replicate 10 false) _ _
            refine wpAnyH_take (i := 0) (oi := _) (v := _) (by simp only [List.getElem?_toArray, List.getElem?_cons_zero]; rfl) (by kernel_rfl) (by kernel_rfl) (by kernel_rfl) (by exact fun _ _ _ h => h) (Or.inl ⟨by rfl, by intro w' hSw; (try dsimp only at hSw); first | (go_simp; done) | (go_simp; with_reducible rfl)⟩) hHeld ?_
            simp only [Act.put, List.setIfInBounds_toArray, List.set_cons_zero, List.set_cons_succ]
            refine wpAnyH_take (i := 1) (oi := _) (v := _) (by simp only [List.getElem?_toArray, List.getElem?_cons_succ, List.getElem?_cons_zero]; rfl) (by kernel_rfl) (by kernel_rfl) (by kernel_rfl) (by exact fun _ _ _ h => h) (Or.inl ⟨by rfl, by intro w' hSw; (try dsimp only at hSw); first | (go_simp; done) | (go_simp; with_reducible rfl)⟩) hHeld ?_
            simp only [Act.put, List.setIfInBounds_toArray, List.set_cons_zero, List.set_cons_succ]
            refine wpAnyH_take (i := 2) (oi := _) (v := _) (by simp only [List.getElem?_toArray, List.getElem?_cons_succ, List.getElem?_cons_zero]; rfl) (by kernel_rfl) (by kernel_rfl) (by kernel_rfl) (by exact fun _ _ _ h => h) (Or.inl ⟨by rfl, by intro w' hSw; (try dsimp only at hSw); first | (go_simp; done) | (go_simp; with_reducible rfl)⟩) hHeld ?_
            simp only [Act.put, List.setIfInBounds_toArray, List.set_cons_zero, List.set_cons_succ]
            refine wpAnyH_take (i := 3) (oi := _) (v := _) (by simp only [List.getElem?_toArray, List.getElem?_cons_succ, List.getElem?_cons_zero]; rfl) (by kernel_rfl) (by kernel_rfl) (by kernel_rfl) (by exact fun _ _ _ h => h) (Or.inl ⟨by rfl, by intro w' hSw; (try dsimp only at hSw); first | (go_simp; done) | (go_simp; with_reducible rfl)⟩) hHeld ?_
            simp only [Act.put, List.setIfInBounds_toArray, List.set_cons_zero, List.set_cons_succ]
            refine wpAnyH_take (i := 5) (oi := _) (v := _) (by simp only [List.getElem?_toArray, List.getElem?_cons_succ, List.getElem?_cons_zero]; rfl) (by kernel_rfl) (by kernel_rfl) (by kernel_rfl) (by exact fun _ _ _ h => h) (Or.inl ⟨by rfl, by intro w' hSw; (try dsimp only at hSw); first | (go_simp; done) | (go_simp; with_reducible rfl)⟩) hHeld ?_
            simp only [Act.put, List.setIfInBounds_toArray, List.set_cons_zero, List.set_cons_succ]
            refine wpAnyH_ready (rs := [4]) (by kernel_rfl) (by simp) ?_
            refine AllReadyH.cons rfl (fun K hK => ?_) AllReadyH.nil
            go_simp
            go_wp2_with fail
            refine hK.out _ _ x6 (fun hHeld => ?_)
            clear hK K
            refine wpAnyH_take (i := 6) (oi := _) (v := _) (by simp only [List.getElem?_toArray, List.getElem?_cons_succ, List.getElem?_cons_zero]; rfl) (by kernel_rfl) (by kernel_rfl) (by kernel_rfl) (by exact fun _ _ _ h => h) (Or.inl ⟨by rfl, by intro w' hSw; (try dsimp only at hSw); first | (go_simp; done) | (go_simp; with_reducible rfl)⟩) hHeld ?_
            simp only [Act.put, List.setIfInBounds_toArray, List.set_cons_zero, List.set_cons_succ]
            refine wpAnyH_take (i := 7) (oi := _) (v := _) (by simp only [List.getElem?_toArray, List.getElem?_cons_succ, List.getElem?_cons_zero]; rfl) (by kernel_rfl) (by kernel_rfl) (by kernel_rfl) (by exact fun _ _ _ h => h) (Or.inl ⟨by rfl, by intro w' hSw; (try dsimp only at hSw); first | (go_simp; done) | (go_simp; with_reducible rfl)⟩) hHeld ?_
            simp only [Act.put, List.setIfInBounds_toArray, List.set_cons_zero, List.set_cons_succ]
            refine wpAnyH_take (i := 8) (oi := _) (v := _) (by simp only [List.getElem?_toArray, List.getElem?_cons_succ, List.getElem?_cons_zero]; rfl) (by kernel_rfl) (by kernel_rfl) (by kernel_rfl) (by exact fun _ _ _ h => h) (Or.inl ⟨by rfl, by intro w' hSw; (try dsimp only at hSw); first | (go_simp; done) | (go_simp; with_reducible rfl)⟩) hHeld ?_
            simp only [Act.put, List.setIfInBounds_toArray, List.set_cons_zero, List.set_cons_succ]
            refine wpAnyH_ready (rs := [9]) (by kernel_rfl) (by simp) ?_
            refine AllReadyH.cons rfl (fun K hK => ?_) AllReadyH.nil
            go_simp
            go_wp2_with fail
            refine hK.out _ _ x7 (fun hHeld => ?_)
            clear hK K
            refine wpAnyH_done (by kernel_rfl) ?_ _
            clear hHeld
            go_wp2
            go_ret
            exact ⟨⟨_, _, rfl, HRS.out, HFI.out.1⟩, HFI.out.2⟩
          · skip
            have HTH := things_any (w := w4) (.slice (some ⟨g, off, none⟩) (s.l.length) cap) (s.l.take (s.l.length)) (HH5.out.row.pre rfl _ hkl) (by rw [List.length_take]; omega)
            have hkc : (s.l.length) ≤ cap := by omega
            go_wp2_with fail
            refine HTH.mono ?_
            clear HTH
            rintro r w5 ⟨v5, rfl, ht5, hb5⟩
            have HH6 : Hid (LeaveAt w w5 S b s mv (.slice (some ⟨g, off, none⟩) s.l.length cap) t e) := HH5.out.below hb5
            obtain ⟨w6, hclr, ho6, hg6, hs6⟩ := run_clear_o (P := Try.prog) w5 73 104 (.agg #[.string ⟨#[]⟩, .int .i64 0]) _ _ Try.underlying73 zeroD rfl rfl rfl g off s.l.length cap (s.l.length) (dcells s.l) HH6.out.row hkl
            have hr6 := DRow.rest ho6 rfl hkl hc1
            have hgb : g ≠ b := row_ne HH6.out.row HH6.out.main g rfl
            have hgz : g ≠ w.heap.size := row_ne2 HH6.out.row HH6.out.box g rfl
            have hg4 : g < w4.heap.size := ORow.lt HH5.out.row g rfl
            have hm6 := (hg6.block b (lt_of_heap HH6.out.main) (fun e => hgb (by injection e with e; exact e.symm))).trans HH6.out.main
            have hx6 := (hg6.block _ (lt_of_heap HH6.out.box) (fun e => hgz (by injection e with e; exact e.symm))).trans HH6.out.box
            have hp6 := HH6.out.mp.keep (w' := w6) (fun g' hg' => hg6.block g' (HH6.out.mp.lt g' hg') (fun e => by
              injection e with e
              subst e
              obtain ⟨es, c, hh⟩ := HH6.out.mp.map _ hg'
              obtain ⟨c', hh'⟩ := ORow.type HH6.out.row _ rfl
              rw [hh] at hh'
              cases hh'))
            have ht6 : Turn S w w6 := HH6.out.turn.trans (Turn.grown hg6 (fun g' e => by cases e; exact .inl hcS))
            have x5' := cell_of_heap HH6.out.box 0 _ rfl
            have z5' := cell_of_heap HH6.out.main 3 _ rfl
            have x6 := cell_of_heap hx6 0 _ rfl
            have z6 := cell_of_heap hm6 3 _ rfl
            have f6 := free_of_heap hm6 3
            have HRS0 : TRow w6 w.heap.size v5 (leaveL s t) := by
              show TRow _ _ _ ((s.l.take (freeN s.l (lo (strike s.m t) s.last))).map Prod.fst)
              rw [HLO.out, hfn]
              exact TRow.keep (TRow.base ht5 HH5.out.turn.size) (fun g' hg' => hg6.block g' (ht5.lt g' hg') (fun e => by injection e with e; have := ht5.ge g' hg'; omega))
            obtain ⟨sa, hsa⟩ : ∃ sa, sa = (if cap = (s.l.length) then some (⟨g, off, none⟩ : Addr) else some ⟨g, off + (s.l.length) * 2, none⟩) := ⟨_, rfl⟩
            rw [← hsa] at hr6
            have hsb : ∀ g', (Value.slice sa (s.l.length - (s.l.length)) (cap - (s.l.length))).ownBlock = some g' → S g' ∧ g' ≠ b := fun g' hg' => by
              rw [hsa] at hg'
              by_cases hck : cap = (s.l.length)
              · rw [if_pos hck] at hg'
                cases hg'
                exact ⟨hcS, hgb⟩
              · rw [if_neg hck] at hg'
                cases hg'
                exact ⟨hcS, hgb⟩
            have hz7 := (heap_setCell_other w6 ⟨b, 3, none⟩ w.heap.size (.slice sa (s.l.length - (s.l.length)) (cap - (s.l.length))) (by show w.heap.size ≠ b; omega)).trans hx6
            have x7 := cell_of_heap hz7 0 _ rfl
            have HFI : Hid (HoldIn (w6.setCell ⟨b, 3, none⟩ (.slice sa (s.l.length - (s.l.length)) (cap - (s.l.length)))).drew S b (leaveF s t) mv (.slice sa (s.l.length - (s.l.length)) (cap - (s.l.length))) ∧ Turn S w (w6.setCell ⟨b, 3, none⟩ (.slice sa (s.l.length - (s.l.length)) (cap - (s.l.length)))).drew) :=
              leave_fin (w6 := w6) hm6 hp6 hr6 ht6 hsb HLO.out hfn HD.out
            have HRS : Hid (TRow (w6.setCell ⟨b, 3, none⟩ (.slice sa (s.l.length - (s.l.length)) (cap - (s.l.length)))).drew w.heap.size v5 (leaveL s t)) :=
              HRS0.keep (fun g' hg' => heap_setCell_other w6 ⟨b, 3, none⟩ g' _ (by have := HRS0.ge g' hg'; show g' ≠ b; omega))
            obtain ⟨va, vc, hv5⟩ := ht5.slice
            rw [List.length_map, List.length_take, Nat.min_eq_left hkl] at hv5
            subst hv5
            rw [if_neg hcl] at hsa; subst hsa; rw [Nat.sub_self] at HFI HRS x7
            clear HRS0 hp6 hr6 ho6 hg6 hs6 hb5 hb4 hm6 hx6 hsb hz7 ht6
            go_wp2_with fail
            clear hclr
            refine wp_region_held_drew (S := fun W => W.cell? ⟨w.heap.size, 0, none⟩ = some (.pointer (some ⟨b, 0, none⟩))) (by kernel_rfl) (by exact x6) (fun hHeld => ?_)
            change wpAnyH _ _ _ _ _ 10 (Array.replicate 10 false) _ _
            refine wpAnyH_take (i := 0) (oi := _) (v := _) (by simp only [List.getElem?_toArray, List.getElem?_cons_zero]; rfl) (by kernel_rfl) (by kernel_rfl) (by kernel_rfl) (by exact fun _ _ _ h => h) (Or.inl ⟨by rfl, by intro w' hSw; (try dsimp only at hSw); first | (go_simp; done) | (go_simp; with_reducible rfl)⟩) hHeld ?_
            simp only [Act.put, List.setIfInBounds_toArray, List.set_cons_zero, List.set_cons_succ]
            refine wpAnyH_take (i := 1) (oi := _) (v := _) (by simp only [List.getElem?_toArray, List.getElem?_cons_succ, List.getElem?_cons_zero]; rfl) (by kernel_rfl) (by kernel_rfl) (by kernel_rfl) (by exact fun _ _ _ h => h) (Or.inl ⟨by rfl, by intro w' hSw; (try dsimp only at hSw); first | (go_simp; done) | (go_simp; with_reducible rfl)⟩) hHeld ?_
            simp only [Act.put, List.setIfInBounds_toArray, List.set_cons_zero, List.set_cons_succ]
            refine wpAnyH_take (i := 2) (oi := _) (v := _) (by simp only [List.getElem?_toArray, List.getElem?_cons_succ, List.getElem?_cons_zero]; rfl) (by kernel_rfl) (by kernel_rfl) (by kernel_rfl) (by exact fun _ _ _ h => h) (Or.inl ⟨by rfl, by intro w' hSw; (try dsimp only at hSw); first | (go_simp; done) | (go_simp; with_reducible rfl)⟩) hHeld ?_
            simp only [Act.put, List.setIfInBounds_toArray, List.set_cons_zero, List.set_cons_succ]
            refine wpAnyH_take (i := 3) (oi := _) (v := _) (by simp only [List.getElem?_toArray, List.getElem?_cons_succ, List.getElem?_cons_zero]; rfl) (by kernel_rfl) (by kernel_rfl) (by kernel_rfl) (by exact fun _ _ _ h => h) (Or.inl ⟨by rfl, by intro w' hSw; (try dsimp only at hSw); first | (go_simp; done) | (go_simp; with_reducible rfl)⟩) hHeld ?_
            simp only [Act.put, List.setIfInBounds_toArray, List.set_cons_zero, List.set_cons_succ]
            refine wpAnyH_take (i := 5) (oi := _) (v := _) (by simp only [List.getElem?_toArray, List.getElem?_cons_succ, List.getElem?_cons_zero]; rfl) (by kernel_rfl) (by kernel_rfl) (by kernel_rfl) (by exact fun _ _ _ h => h) (Or.inl ⟨by rfl, by intro w' hSw; (try dsimp only at hSw); first | (go_simp; done) | (go_simp; with_reducible rfl)⟩) hHeld ?_
            simp only [Act.put, List.setIfInBounds_toArray, List.set_cons_zero, List.set_cons_succ]
            refine wpAnyH_ready (rs := [4]) (by kernel_rfl) (by simp) ?_
            refine AllReadyH.cons rfl (fun K hK => ?_) AllReadyH.nil
            go_simp
            go_wp2_with fail
            refine hK.out _ _ x6 (fun hHeld => ?_)
            clear hK K
            refine wpAnyH_take (i := 6) (oi := _) (v := _) (by simp only [List.getElem?_toArray, List.getElem?_cons_succ, List.getElem?_cons_zero]; rfl) (by kernel_rfl) (by kernel_rfl) (by kernel_rfl) (by exact fun _ _ _ h => h) (Or.inl ⟨by rfl, by intro w' hSw; (try dsimp only at hSw); first | (go_simp; done) | (go_simp; with_reducible rfl)⟩) hHeld ?_
            simp only [Act.put, List.setIfInBounds_toArray, List.set_cons_zero, List.set_cons_succ]
            refine wpAnyH_take (i := 7) (oi := _) (v := _) (by simp only [List.getElem?_toArray, List.getElem?_cons_succ, List.getElem?_cons_zero]; rfl) (by kernel_rfl) (by kernel_rfl) (by kernel_rfl) (by exact fun _ _ _ h => h) (Or.inl ⟨by rfl, by intro w' hSw; (try dsimp only at hSw); first | (go_simp; done) | (go_simp; with_reducible rfl)⟩) hHeld ?_
            simp only [Act.put, List.setIfInBounds_toArray, List.set_cons_zero, List.set_cons_succ]
            refine wpAnyH_take (i := 8) (oi := _) (v := _) (by simp only [List.getElem?_toArray, List.getElem?_cons_succ, List.getElem?_cons_zero]; rfl) (by kernel_rfl) (by kernel_rfl) (by kernel_rfl) (by exact fun _ _ _ h => h) (Or.inl ⟨by rfl, by intro w' hSw; (try dsimp only at hSw); first | (go_simp; done) | (go_simp; with_reducible rfl)⟩) hHeld ?_
            simp only [Act.put, List.setIfInBounds_toArray, List.set_cons_zero, List.set_cons_succ]
            refine wpAnyH_ready (rs := [9]) (by kernel_rfl) (by simp) ?_
            refine AllReadyH.cons rfl (fun K hK => ?_) AllReadyH.nil
            go_simp
            go_wp2_with fail
            refine hK.out _ _ x7 (fun hHeld => ?_)
            clear hK K
            refine wpAnyH_done (by kernel_rfl) ?_ _
            clear hHeld
            go_wp2
            go_ret
            exact ⟨⟨_, _, rfl, HRS.out, HFI.out.1⟩, HFI.out.2⟩

end Go.Proofs.Ytgfbcekmnpdoeaa.Hds
