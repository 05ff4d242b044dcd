/-
  How what lies right below an error is put to those that wait. No condition.
-/
import Derived.Test.YtncjlcgndhodmabDoorFaPush
import Derived.Test.YtncjlcgndhodmabDoorFaApp
namespace Go.Proofs.YtncjlcgndhodmabDoor.Fa
open Go.ChangeShapes Go.WideShapes Go.ChangeAt Go.RowKit Go.Proofs.Fa

theorem info_part : (Tryd.prog.info? 84).map (fun i => (i.zero, i.size, i.bytes)) = some (some (.agg #[.string ⟨#[]⟩, .nilIface]), 2, 32) := by kernel_rfl

/-- What is behind the push. -/
def Pushed (w0 : World) (B : Nat) (w : World) (x : Item) (v : Value) (zs : List Item) (e : Ending) (w' : World) : Prop :=
  ∃ v' ks, e = .returned v' ∧ w.grownBy w' v.ownBlock ∧ w'.ownsRow B 84 2 v' (zs ++ ks).length (row (zs ++ ks)) ∧ Parts B w w' ∧ ks.map Item.key = pushes x.b x.l ∧ ∀ k ∈ ks, k.At w0

theorem grown_refl (w : World) (r : Option Nat) : w.grownBy w r := ⟨rfl, rfl, rfl, Nat.le_refl _, fun _ _ _ => rfl⟩
theorem grown_trans {a b c : World} {r r2 : Option Nat} (h : a.grownBy b r) (k : b.grownBy c r2) (hr : r2 = r ∨ ∃ i, r2 = some i ∧ a.heap.size ≤ i) : a.grownBy c r :=
  ⟨k.os.trans h.os, k.tape.trans h.tape, k.output.trans h.output, Nat.le_trans h.size k.size, fun i hi hn => (k.block i (Nat.lt_of_lt_of_le hi h.size) (fun e => by
    rcases hr with rfl | ⟨j, rfl, hj⟩
    · exact hn e
    · cases e; omega)).trans (h.block i hi hn)⟩

theorem pushed_none {w0 : World} {B : Nat} {w : World} {v : Value} {zs : List Item} (hrow : w.ownsRow B 84 2 v zs.length (row zs)) (a : ByteArray) (b : Option (Option Int)) (u : Value) : Pushed w0 B w ⟨a, b, [], u⟩ v zs (.returned v) w :=
  ⟨v, [], rfl, grown_refl _ _, by simpa using hrow, Parts.refl _ _, rfl, fun k hk => by cases hk⟩

/-- Two cells laid last. -/
theorem cells_two (w : World) (x y : Value) (t : TypeId) (b : Nat) (hb : b = w.heap.size) : ∀ j u, [x, y][j]? = some u → (w.alloc (.cells #[x, y] t)).cell? ((⟨b, 0, none⟩ : Addr).add j) = some u := by
  subst hb
  intro j u h
  match j with
  | 0 => cases h; exact cell_of_heap (heap_alloc_new w _) 0 _ rfl
  | 1 => cases h; exact cell_of_heap (heap_alloc_new w _) 1 _ rfl
  | j + 2 => simp at h

set_option maxRecDepth 100000
set_option maxHeartbeats 400000
theorem push_base (w0 : World) (B : Nat) (w : World) (a : ByteArray) (b : Option (Option Int)) (v : Value) (zs : List Item)
    (hrow : w.ownsRow B 84 2 v zs.length (row zs)) :
    Calls Tryd.prog 40 #[v, baseV b] w (Pushed w0 B w ⟨a, b, [], baseV b⟩ v zs) := by
  have HP : Hid (Pushed w0 B w ⟨a, b, [], baseV b⟩ v zs (.returned v) w) := pushed_none (w0 := w0) hrow a b (baseV b)
  clear hrow
  generalize Pushed w0 B w ⟨a, b, [], baseV b⟩ v zs = R at *
  rcases b with _ | _ | n
  · simp only [baseV]
    go_enter Tryd.func40, Tryd.ntmps40
    go_wp2_with (go_at_call 41; refine (below_none _).mono ?_; rintro r w1 ⟨rfl, rfl⟩)
    go_rounds 1
    exact HP.out
  · simp only [baseV]
    go_enter Tryd.func40, Tryd.ntmps40
    go_wp2_with (go_at_call 41; refine (below_nil _).mono ?_; rintro r w1 ⟨rfl, rfl⟩)
    go_rounds 1
    exact HP.out
  · simp only [baseV]
    go_enter Tryd.func40, Tryd.ntmps40
    go_wp2_with (go_at_call 41; refine (below_errno _ _).mono ?_; rintro r w1 ⟨rfl, rfl⟩)
    go_rounds 1
    exact HP.out

theorem push_fault (B : Nat) (w : World) (hB : B ≤ w.heap.size) (g : Nat) (op : ByteArray) (at_ : Int) (u : Value) (hu : IsI u)
    (h : w.heap[g]? = some (.cells #[.string op, .int .i64 at_, u] 96 (0, 0))) (v : Value) (zs : List Item) (hz : zs.length ≤ 1000000)
    (hrow : w.ownsRow B 84 2 v zs.length (row zs)) :
    Calls Tryd.prog 40 #[v, .iface 94 (.pointer (some ⟨g, 0, none⟩))] w fun e w' =>
      ∃ v', e = .returned v' ∧ w.grownBy w' v.ownBlock ∧ w'.ownsRow B 84 2 v' (zs.length + 1) (row zs ++ [.string ⟨#[]⟩, u]) ∧ Parts B w w' := by
  obtain ⟨i0, hi, hz0, hz1, hz2⟩ := info_parts info_part
  have HR : Hid (w.ownsRow B 84 2 v zs.length (row zs)) := hrow
  have H : Hid (w.heap[g]? = some (.cells #[.string op, .int .i64 at_, u] 96 (0, 0))) := h
  clear hrow h
  generalize hzn : zs.length = zn at *
  generalize row zs = rs at *
  rcases hu with rfl | ⟨t, u, rfl⟩
  · go_enter Tryd.func40, Tryd.ntmps40
    go_wp2_with (go_at_call 41; refine (below_fault _ _ _ _ (by first | exact .inl rfl | exact .inr ⟨_, _, rfl⟩) _ H.out).mono ?_; rintro r w1 ⟨rfl, rfl⟩)
    refine wp_loop_rounds 1 ?_
    rw [rounds_succ]
    go_wp2_with (at_builtin; refine wpList_append_near _ rfl _ _ 85 rfl B 84 i0 _ 2 32 Tryd.underlying85 hi hz0 hz1 hz2 rfl (by decide) _ _ _ rfl ((HR.out.alloc _).alloc _) ⟨w.heap.size + 1, 0, none⟩ 1 1 [.string ⟨#[]⟩, .nilIface] rfl rfl (cells_two _ _ _ _ _ (by simp)) (by simp [Value.oneCell']) (by unfold maxLen; omega) (by omega) (by simp; omega) ?_; intro v' w1 hown' hgrow _hn)
    go_ret
    exact ⟨_, rfl, grown_trans (grown_trans (World.grownBy_alloc w _ _) (World.grownBy_alloc _ _ _) (.inl rfl)) hgrow (.inl rfl), hown', (((Parts.refl B w).alloc _).alloc _).trans (Parts.own ((HR.out.alloc _).alloc _) hgrow)⟩
  · go_enter Tryd.func40, Tryd.ntmps40
    go_wp2_with (go_at_call 41; refine (below_fault _ _ _ _ (by first | exact .inl rfl | exact .inr ⟨_, _, rfl⟩) _ H.out).mono ?_; rintro r w1 ⟨rfl, rfl⟩)
    refine wp_loop_rounds 1 ?_
    rw [rounds_succ]
    go_wp2_with (at_builtin; refine wpList_append_near _ rfl _ _ 85 rfl B 84 i0 _ 2 32 Tryd.underlying85 hi hz0 hz1 hz2 rfl (by decide) _ _ _ rfl ((HR.out.alloc _).alloc _) ⟨w.heap.size + 1, 0, none⟩ 1 1 [.string ⟨#[]⟩, .iface t u] rfl rfl (cells_two _ _ _ _ _ (by simp)) (by simp [Value.oneCell']) (by unfold maxLen; omega) (by omega) (by simp; omega) ?_; intro v' w1 hown' hgrow _hn)
    go_ret
    exact ⟨_, rfl, grown_trans (grown_trans (World.grownBy_alloc w _ _) (World.grownBy_alloc _ _ _) (.inl rfl)) hgrow (.inl rfl), hown', (((Parts.refl B w).alloc _).alloc _).trans (Parts.own ((HR.out.alloc _).alloc _) hgrow)⟩

theorem push_join (w0 : World) (B : Nat) (w : World) (hB : B ≤ w.heap.size) (h0 : w0.heap.size ≤ B) (hb : Below w0.heap.size w0 w) (g cap : Nat) (u : Value) (k : Int) (hu : IsI u)
    (hc0 : w0.cell? ⟨g, 0, none⟩ = some u) (hc1 : w0.cell? ⟨g, 1, none⟩ = some (.iface 49 (.int .i64 k))) (v : Value) (zs : List Item) (hz : zs.length ≤ 1000000)
    (hrow : w.ownsRow B 84 2 v zs.length (row zs)) :
    Calls Tryd.prog 40 #[v, .iface 97 (.slice (some ⟨g, 0, none⟩) 2 cap)] w fun e w' =>
      ∃ v', e = .returned v' ∧ w.grownBy w' v.ownBlock ∧ w'.ownsRow B 84 2 v' (zs.length + 2) (row zs ++ [.string sep, .iface 49 (.int .i64 k), .string ⟨#[]⟩, u]) ∧ Parts B w w' := by
  obtain ⟨i0, hi, hz0, hz1, hz2⟩ := info_parts info_part
  have HR : Hid (w.ownsRow B 84 2 v zs.length (row zs)) := hrow
  have H0 : Hid (w0.cell? ⟨g, 0, none⟩ = some u) := hc0
  have Hb : Hid (Below w0.heap.size w0 w) := hb
  have hc1' : w.cell? ⟨g, 1, none⟩ = some (.iface 49 (.int .i64 k)) := (hb.cell (p := ⟨g, 1, none⟩) (lt_of_cell hc0)).trans hc1
  clear hrow hc0 hc1 hb
  generalize hzn : zs.length = zn at *
  generalize row zs = rs at *
  rcases hu with rfl | ⟨t, u, rfl⟩
  · go_enter Tryd.func40, Tryd.ntmps40
    go_wp2_with (go_at_call 41; refine (below_many _ _).mono ?_; rintro r w1 ⟨rfl, rfl⟩)
    refine wp_loop_rounds 2 ?_
    rw [rounds_succ]
    go_wp2_with (at_builtin; refine wpList_append_near _ rfl _ _ 85 rfl B 84 i0 _ 2 32 Tryd.underlying85 hi hz0 hz1 hz2 rfl (by decide) _ _ _ rfl (HR.out.alloc _) ⟨w1.heap.size, 0, none⟩ 1 1 [.string sep, .iface 49 (.int .i64 k)] rfl rfl (cells_two _ _ _ _ _ (by simp)) (by simp [Value.oneCell']) (by unfold maxLen; omega) (by omega) (by simp; omega) ?_; intro v' w2 hown' hgrow hn)
    have HP1 : Hid (Parts B w1 w2) := ((Parts.refl B w1).alloc _).trans (Parts.own (HR.out.alloc _) hgrow)
    have hB2 := Nat.le_trans hB HP1.out.size
    have HG : Hid (w1.grownBy w2 v.ownBlock) := grown_trans (World.grownBy_alloc w1 _ _) hgrow (.inl rfl)
    have HN : Hid (v'.ownBlock = v.ownBlock ∨ ∃ i, v'.ownBlock = some i ∧ w1.heap.size ≤ i) := by
      rcases hn with h | ⟨i, h, hi'⟩
      · exact .inl h
      · exact .inr ⟨i, h, by rw [World.size_alloc] at hi'; omega⟩
    have hc0 : w2.cell? ⟨g, 0, none⟩ = some (.nilIface) := ((HP1.out.below Hb.out.size h0).cell (p := ⟨g, 0, none⟩) (lt_of_cell H0.out)).trans ((Hb.out.cell (p := ⟨g, 0, none⟩) (lt_of_cell H0.out)).trans H0.out)
    have HO : Hid (w2.ownsRow B 84 2 v' (zn + 1) (rs ++ [.string sep, .iface 49 (.int .i64 k)])) := hown'
    clear hown' hgrow hc1' hn
    rw [rounds_succ]
    go_wp2_with (at_builtin; refine wpList_append_near _ rfl _ _ 85 rfl B 84 i0 _ 2 32 Tryd.underlying85 hi hz0 hz1 hz2 rfl (by decide) _ _ _ rfl (HO.out.alloc _) ⟨w2.heap.size, 0, none⟩ 1 1 [.string ⟨#[]⟩, .nilIface] rfl rfl (cells_two _ _ _ _ _ (by simp)) (by simp [Value.oneCell']) (by unfold maxLen; omega) (by omega) (by simp; omega) ?_; intro v2 w3 hown2 hgrow2 _hn)
    go_ret
    exact ⟨_, rfl, grown_trans (grown_trans HG.out (World.grownBy_alloc w2 _ _) (.inl rfl)) hgrow2 HN.out, by simpa using hown2, HP1.out.trans (((Parts.refl B w2).alloc _).trans (Parts.own (HO.out.alloc _) hgrow2))⟩
  · go_enter Tryd.func40, Tryd.ntmps40
    go_wp2_with (go_at_call 41; refine (below_many _ _).mono ?_; rintro r w1 ⟨rfl, rfl⟩)
    refine wp_loop_rounds 2 ?_
    rw [rounds_succ]
    go_wp2_with (at_builtin; refine wpList_append_near _ rfl _ _ 85 rfl B 84 i0 _ 2 32 Tryd.underlying85 hi hz0 hz1 hz2 rfl (by decide) _ _ _ rfl (HR.out.alloc _) ⟨w1.heap.size, 0, none⟩ 1 1 [.string sep, .iface 49 (.int .i64 k)] rfl rfl (cells_two _ _ _ _ _ (by simp)) (by simp [Value.oneCell']) (by unfold maxLen; omega) (by omega) (by simp; omega) ?_; intro v' w2 hown' hgrow hn)
    have HP1 : Hid (Parts B w1 w2) := ((Parts.refl B w1).alloc _).trans (Parts.own (HR.out.alloc _) hgrow)
    have hB2 := Nat.le_trans hB HP1.out.size
    have HG : Hid (w1.grownBy w2 v.ownBlock) := grown_trans (World.grownBy_alloc w1 _ _) hgrow (.inl rfl)
    have HN : Hid (v'.ownBlock = v.ownBlock ∨ ∃ i, v'.ownBlock = some i ∧ w1.heap.size ≤ i) := by
      rcases hn with h | ⟨i, h, hi'⟩
      · exact .inl h
      · exact .inr ⟨i, h, by rw [World.size_alloc] at hi'; omega⟩
    have hc0 : w2.cell? ⟨g, 0, none⟩ = some (.iface t u) := ((HP1.out.below Hb.out.size h0).cell (p := ⟨g, 0, none⟩) (lt_of_cell H0.out)).trans ((Hb.out.cell (p := ⟨g, 0, none⟩) (lt_of_cell H0.out)).trans H0.out)
    have HO : Hid (w2.ownsRow B 84 2 v' (zn + 1) (rs ++ [.string sep, .iface 49 (.int .i64 k)])) := hown'
    clear hown' hgrow hc1' hn
    rw [rounds_succ]
    go_wp2_with (at_builtin; refine wpList_append_near _ rfl _ _ 85 rfl B 84 i0 _ 2 32 Tryd.underlying85 hi hz0 hz1 hz2 rfl (by decide) _ _ _ rfl (HO.out.alloc _) ⟨w2.heap.size, 0, none⟩ 1 1 [.string ⟨#[]⟩, .iface t u] rfl rfl (cells_two _ _ _ _ _ (by simp)) (by simp [Value.oneCell']) (by unfold maxLen; omega) (by omega) (by simp; omega) ?_; intro v2 w3 hown2 hgrow2 _hn)
    go_ret
    exact ⟨_, rfl, grown_trans (grown_trans HG.out (World.grownBy_alloc w2 _ _) (.inl rfl)) hgrow2 HN.out, by simpa using hown2, HP1.out.trans (((Parts.refl B w2).alloc _).trans (Parts.own (HO.out.alloc _) hgrow2))⟩

theorem push_any (w0 : World) (B : Nat) (w : World) (hB : B ≤ w.heap.size) (h0 : w0.heap.size ≤ B) (hb : Below w0.heap.size w0 w) (x : Item) (hx : x.At w0) (v : Value) (zs : List Item) (hz : zs.length ≤ 1000000)
    (hrow : w.ownsRow B 84 2 v zs.length (row zs)) :
    Calls Tryd.prog 40 #[v, x.v] w (Pushed w0 B w x v zs) := by
  obtain ⟨a, b, l, xv⟩ := x
  match l, hx with
  | [], hx =>
    have hx' : xv = baseV b := hx
    subst hx'
    exact push_base w0 B w a b v zs hrow
  | y :: r, hx =>
    rcases hx with ⟨hj, g, cap, u, hv, c0, c1, hr⟩ | ⟨hj, g, u, hv, hh, hr⟩
    · have hv' : xv = _ := hv
      subst hv'
      refine (push_join w0 B w hB h0 hb g cap u y.k hr.isI c0 c1 v zs hz hrow).mono ?_
      rintro e w' ⟨v', rfl, hg, ho, hp⟩
      refine ⟨v', [⟨sep, some (some y.k), [], .iface 49 (.int .i64 y.k)⟩, ⟨⟨#[]⟩, b, r, u⟩], rfl, hg, ?_, hp, ?_, ?_⟩
      · rw [row_append, List.length_append]; exact ho
      · simp [pushes, hj, Item.key]
      · intro k hk
        simp only [List.mem_cons, List.not_mem_nil, or_false] at hk
        rcases hk with rfl | rfl
        · rfl
        · exact hr
    · have hv' : xv = _ := hv
      subst hv'
      refine (push_fault B w hB g y.op y.pos u hr.isI ((hb.block g (lt_of_heap hh)).trans hh) v zs hz hrow).mono ?_
      rintro e w' ⟨v', rfl, hg, ho, hp⟩
      refine ⟨v', [⟨⟨#[]⟩, b, r, u⟩], rfl, hg, ?_, hp, ?_, ?_⟩
      · rw [row_append, List.length_append]; exact ho
      · simp [pushes, hj, Item.key]
      · intro k hk
        simp only [List.mem_cons, List.not_mem_nil, or_false] at hk
        subst hk
        exact hr

end Go.Proofs.YtncjlcgndhodmabDoor.Fa
