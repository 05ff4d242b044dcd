/-
  Things of string are dropped; those that are held; how many are inside. No condition.
-/
import Derived.Test.YtgfbcekmnpdoeaaHdBs
namespace Go.Proofs.Ytgfbcekmnpdoeaa.Hds
open Go.ChangeShapes Go.WideShapes Go.ChangeAt Go.RowKit Go.Proofs.Fa Go.Proofs.Ytgfbcekmnpdoeaa.Hd
open Go.Proofs.Ytgfbcekmnpdoeaa.Nv (Turn Grow lt_of_heap lt_of_cell cell_of_heap free_of_heap icells scells icells_one scells_one)

theorem wpH_append {P : Program} {o : Oper} {a : Act} {w w' : World} {tm : Nat → Option Bool} {K : Act → World → Prop} {Q : Exit → Act → World → Prop} {s x : Operand} {t : TypeId} {v v2 v' : Value} (hwant : Region.wanted o tm = true)
    (ho : o.op = .call { callee := .builtin .append, args := #[s, x], argTypes := #[t, t] }) (hs : a.eval s = v) (hx : a.eval x = v2) (hr : (Builtin.append_ #[t, t] o.type #[v, v2]).run P w = .ok v' w') (hK : K (a.put o.dst v') w') :
    if Region.wanted o tm = true then Oper.wp P o a w K Q else K (a.put o.dst undef) w := by
  rw [if_pos hwant]
  unfold Oper.wp execOp
  simp only [ho, resolve, invoke, builtin, Sem.run_bind, Sem.run_pure, Result.andThen_ok, List.map_toArray, List.map_cons, List.map_nil, hs, hx, hr]
  exact hK

/-- A slice of things, read. -/
def TAt (w : World) (v : Value) (xs : List ByteArray) : Prop :=
  (v = .slice none 0 0 ∧ xs = []) ∨ ∃ g off cap, v = .slice (some ⟨g, off, none⟩) xs.length cap ∧ xs.length ≤ cap ∧ cap ≤ 9223372036854775807 ∧ g < w.heap.size ∧ ∀ i (h : i < xs.length), w.cell? ⟨g, off + i, none⟩ = some (.string xs[i])
theorem TRow.at {w : World} {B : Nat} {v : Value} {xs : List ByteArray} (h : TRow w B v xs) : TAt w v xs := by
  have hl : (scells xs).length = xs.length := List.length_map _
  rcases h.2 with ⟨rfl, h0⟩ | ⟨g, cap, cur, rfl, hb, hg, hnc, hcm, hcs, ht⟩
  · exact .inl ⟨rfl, List.eq_nil_of_length_eq_zero h0⟩
  · refine .inr ⟨g, 0, cap, rfl, hnc, hcm, lt_of_heap hg, fun i hi => ?_⟩
    have := World.ownsRow.cells (g := g) h rfl i (.string xs[i]) (by simp [scells, hi])
    simpa [Addr.add_lit] using this
theorem TAt.turn {w w' : World} {S : Nat → Prop} {v : Value} {xs : List ByteArray} (h : TAt w v xs) (ht : Turn S w w') (hs : ∀ g, v.ownBlock = some g → ¬ S g) : TAt w' v xs := by
  rcases h with h | ⟨g, off, cap, rfl, h1, h2, h3, hc⟩
  · exact .inl h
  · refine .inr ⟨g, off, cap, rfl, h1, h2, Nat.lt_of_lt_of_le h3 ht.size, fun i hi => ?_⟩
    rw [← hc i hi]
    unfold World.cell?
    rw [show w'.heap[(⟨g, off + i, none⟩ : Addr).block]? = w.heap[(⟨g, off + i, none⟩ : Addr).block]? from ht.block g h3 (hs g rfl)]

theorem info_d : (Try.prog.info? 104).map (fun i => (i.zero, i.size, i.bytes)) = some (some (.agg #[.string ⟨#[]⟩, .int .i64 0]), 2, 24) := by kernel_rfl
theorem turn_trans {S : Nat → Prop} {a b c : World} (h : Turn S a b) (k : Turn (Grow S a b) b c) : Turn S a c := h.trans k
theorem grow_grow {S : Nat → Prop} {a b c : World} (h1 : a.heap.size ≤ b.heap.size) (h2 : b.heap.size ≤ c.heap.size) (k : Nat) (h : Grow (Grow S a b) b c k) : Grow S a c k := by
  rcases h with h | ⟨h, h'⟩
  · rcases h with h | ⟨h, h'⟩
    · exact .inl h
    · exact .inr ⟨h, by omega⟩
  · exact .inr ⟨by omega, h'⟩

variable {w : World} {S : Nat → Prop} {b : Nat} {s : HS ByteArray} {mv hv : Value}

theorem HoldIn.push (h : HoldIn w S b s mv hv) (x : ByteArray) (hx : s.l.length + 1 ≤ 5000) :
    ∃ v' W2, (Builtin.append_ #[73, 73] 73 #[hv, .slice (some ⟨w.heap.size, 0, none⟩) 1 1]).run Try.prog (w.drew.alloc (.cells #[.string x, .int .i64 s.last] 104)) = .ok v' W2 ∧
      (HoldIn (W2.setCell ⟨b, 3, none⟩ v') (Grow S w (W2.setCell ⟨b, 3, none⟩ v')) b { s with l := s.l ++ [(x, s.last)] } mv v' ∧ Turn S w (W2.setCell ⟨b, 3, none⟩ v')) ∧
      W2.heap[b]? = w.heap[b]? ∧ ∃ a n c, v' = .slice a n c := by
  obtain ⟨i0, hi, hz0, hz1, hz2⟩ := info_parts info_d
  have hn := heap_alloc_new w.drew (.cells #[.string x, .int .i64 s.last] 104)
  have hb1 : Below w.heap.size w (w.drew.alloc (.cells #[.string x, .int .i64 s.last] 104)) := ((Below.refl _ w).drew).alloc (Nat.le_refl _) _
  have hr1 : DRow (w.drew.alloc (.cells #[.string x, .int .i64 s.last] 104)) hv s.l := ORow.below h.row hb1 (Nat.le_refl _)
  obtain ⟨v', W2, hrun, ho2, hg2, hbl2⟩ := run_append_o (P := Try.prog) (w.drew.alloc (.cells #[.string x, .int .i64 s.last] 104)) 73 73 104 i0 _ 24 Try.underlying73 hi hz0 hz1 hz2 rfl hv s.l.length (dcells s.l) hr1
    ⟨w.heap.size, 0, none⟩ 1 [.string x, .int .i64 s.last] rfl (fun j u hu => by
      rw [Addr.add_lit]
      match j, hu with
      | 0, hu => cases hu; exact cell_of_heap hn 0 _ rfl
      | 1, hu => cases hu; exact cell_of_heap hn 1 _ rfl) (by intro u hu; simp only [List.mem_cons, List.not_mem_nil, or_false] at hu; rcases hu with rfl | rfl <;> rfl) (by unfold maxLen; omega) (by omega)
  have hsz1 : (w.drew.alloc (.cells #[.string x, .int .i64 s.last] 104)).heap.size = w.heap.size + 1 := World.size_alloc _ _
  have hsz2 := hg2.size
  have hbw := lt_of_heap h.main
  have hm2 : W2.heap[b]? = w.heap[b]? := (hg2.block b (by omega) (fun e => h.ne_r b e.symm rfl)).trans (hb1.block b hbw)
  have hv'S : ∀ g, v'.ownBlock = some g → S g ∨ w.heap.size ≤ g := fun g hg => by
    rcases hbl2 with e | e
    · exact .inl (h.sr g (e ▸ hg))
    · rw [e] at hg
      injection hg with hg
      right; omega
  have hv'lt : ∀ g, v'.ownBlock = some g → g < W2.heap.size := fun g hg => ORow.lt ho2 g hg
  have hv'b : ∀ g, v'.ownBlock = some g → g ≠ b := fun g hg => by
    rcases hbl2 with e | e
    · exact h.ne_r g (e ▸ hg)
    · rw [e] at hg
      injection hg with hg
      omega
  have ht2 : Turn S w W2 := (Turn.of_below hb1).trans (Turn.grown hg2 (fun g e => .inl (h.sr g e)))
  have ht3 : Turn S w (W2.setCell ⟨b, 3, none⟩ v') := ht2.setCell b 3 _ (.inl h.sb)
  refine ⟨v', W2, hrun, ⟨⟨?_, ?_, ?_, h.ok.drop [x] hx, .inl h.sb, fun g e => .inl (h.sm g e), fun g hg => ?_, grow_lt h.lt ht3.size⟩, ht3⟩, hm2, by
    rcases ho2.two with ⟨e, _⟩ | ⟨g, off, cap, e, _⟩
    · exact ⟨_, _, _, e⟩
    · exact ⟨_, _, _, e⟩⟩
  · exact heap_setCell_same W2 b 3 _ _ _ (hm2.trans h.main)
  · refine h.mp.keep (fun g hg => ?_)
    have h1 := (heap_setCell_other W2 ⟨b, 3, none⟩ g v' (h.ne_m g hg))
    exact h1.trans ((hg2.block g (by have := h.mp.lt g hg; omega) (fun e => h.ne_mr g hg e.symm)).trans (hb1.block g (h.mp.lt g hg)))
  · have := ho2.keep (w' := W2.setCell ⟨b, 3, none⟩ v') (fun g hg => heap_setCell_other W2 ⟨b, 3, none⟩ g v' (hv'b g hg))
    unfold DRow
    rw [dcells_append, List.length_append]
    exact this
  · rcases hv'S g hg with h' | h'
    · exact .inl h'
    · exact .inr ⟨h', by have := hv'lt g hg; simpa using this⟩

set_option maxRecDepth 100000
set_option maxHeartbeats 2000000

theorem dropF_take (s : HS ByteArray) (xs : List ByteArray) (k : Nat) (hk : k < xs.length) : ({ dropF s (xs.take k) with l := (dropF s (xs.take k)).l ++ [(xs[k], s.last)] } : HS ByteArray) = dropF s (xs.take (k + 1)) := by
  unfold dropF
  rw [List.take_succ_eq_append_getElem hk, List.map_append, List.append_assoc]
  rfl

theorem drop_some (v : Value) (xs : List ByteArray) (h : HoldIn w S b s mv hv) (hm : s.m ≠ []) (hx : TAt w v xs) (hs : ∀ g, v.ownBlock = some g → ¬ S g) (hl : s.l.length + xs.length ≤ 5000) :
    Calls Try.prog 36 #[.pointer (some ⟨b, 0, none⟩), v] w fun e w' => e = .returned (.slice none 0 0) ∧ (∃ hv', HoldIn w' (Grow S w w') b (dropF s xs) mv hv') ∧ Turn S w w' := by
  have HD : Hid (HoldIn w S b s mv hv) := h
  have HX : Hid (TAt w v xs) := hx
  have HS' : Hid (∀ g, v.ownBlock = some g → ¬ S g) := hs
  have c1 := cell_of_heap h.main 1 _ rfl
  have hlen := h.mp.len
  have hne : (((s.m.length : Nat) : Int) == 0) = false := by
    rw [beq_eq_false_iff_ne]
    intro e
    exact hm (List.eq_nil_of_length_eq_zero (by omega))
  obtain ⟨a, cap, hv'⟩ : ∃ a cap, v = .slice a xs.length cap := by
    rcases hx with ⟨rfl, rfl⟩ | ⟨g, off, cap, rfl, _⟩
    · exact ⟨none, 0, rfl⟩
    · exact ⟨_, _, rfl⟩
  subst hv'
  clear h hx hs hm
  generalize s.m.length = ml at *
  go_enter Try.func36, Try.ntmps36
  go_wp2
  go_loopw [19] (fun i wr => ∃ (k : Nat) (hv' : Value), k ≤ xs.length ∧ i = .int .i64 k ∧ HoldIn wr (Grow S w wr) b (dropF s (xs.take k)) mv hv' ∧ Turn S w wr) (fun i _ => xs.length - (intOf i).toNat)
  case atStart =>
    refine ⟨0, hv, Nat.zero_le _, rfl, ?_, Turn.refl _ _⟩
    have e : dropF s (xs.take 0) = s := by unfold dropF; simp
    rw [e]
    exact HD.out.grow (fun k hk => .inl hk) (grow_lt HD.out.lt (Nat.le_refl _))
  case round =>
    obtain ⟨k, hv2, hk, rfl, hh, ht⟩ := hrel
    have HH : Hid (HoldIn wr (Grow S w wr) b (dropF s (xs.take k)) mv hv2) := hh
    have HT : Hid (Turn S w wr) := ht
    have hxk := HX.out.turn ht HS'.out
    clear hh ht
    by_cases hlt : k < xs.length
    · rcases hxk with ⟨_, h0⟩ | ⟨g, off, cap', he, hc1, hc2, hgl, hc⟩
      · rw [h0] at hlt; cases hlt
      cases he
      have ck := hc k hlt
      clear hc
      obtain ⟨v', W2, hrun, HF, hm2, va, vn, vc, hvs⟩ := HH.out.push xs[k] (by show (s.l ++ _).length + 1 ≤ 5000; simp; omega)
      subst hvs
      have HF1 : HoldIn (W2.setCell ⟨b, 3, none⟩ (.slice va vn vc)) (Grow (Grow S w wr) wr (W2.setCell ⟨b, 3, none⟩ (.slice va vn vc))) b (dropF s (xs.take (k + 1))) mv (.slice va vn vc) := by
        rw [← dropF_take s xs k hlt]
        exact HF.1
      have HF2 : Hid (HoldIn (W2.setCell ⟨b, 3, none⟩ (.slice va vn vc)) (Grow S w (W2.setCell ⟨b, 3, none⟩ (.slice va vn vc))) b (dropF s (xs.take (k + 1))) mv (.slice va vn vc) ∧ Turn S w (W2.setCell ⟨b, 3, none⟩ (.slice va vn vc))) :=
        ⟨HF1.grow (grow_grow HT.out.size HF.2.size) (grow_lt HD.out.lt (Nat.le_trans HT.out.size HF.2.size)), HT.out.trans HF.2⟩
      have hmr := HH.out.main
      have hmd : (dropF s (xs.take k)).last = s.last := rfl
      rw [hmd] at hrun hmr
      have d0 : wr.drew.cell? ⟨b, 0, none⟩ = some (.int .i64 s.last) := cell_of_heap (w := wr.drew) hmr 0 _ rfl
      have d3 : wr.drew.cell? ⟨b, 3, none⟩ = some hv2 := cell_of_heap (w := wr.drew) hmr 3 _ rfl
      have e1 : (wr.drew.alloc (.cells #[.string xs[k], .int .i64 s.last] 104)).heap[b]? = wr.heap[b]? := Below.heap_alloc _ _ _ (lt_of_heap (w := wr.drew) hmr)
      have e0 := cell_of_heap (e1.trans hmr) 0 _ rfl
      have e3 := cell_of_heap (e1.trans hmr) 3 _ rfl
      have e3' : (wr.alloc (.cells #[.string xs[k], .int .i64 s.last] 104)).cell? ⟨b, 3, none⟩ = some hv2 := e3
      have g0 := cell_of_heap (hm2.trans hmr) 0 _ rfl
      have g3 := cell_of_heap (hm2.trans hmr) 3 _ rfl
      have gf := free_of_heap (hm2.trans hmr) 3
      have h0' : (W2.setCell ⟨b, 3, none⟩ (.slice va vn vc)).cell? ⟨b, 0, none⟩ = some (.int .i64 s.last) := cell_of_heap HF2.out.1.main 0 _ rfl
      clear HF HF1 hm2 hmr hmd e1 hlen
      generalize xs[k] = x at *
      go_wp2_with fail
      refine wp_region_held_drew (S := fun W => W.cell? ⟨b, 0, none⟩ = some (.int .i64 s.last)) (by kernel_rfl) (by exact d0) (fun hHeld => ?_)
      change wpAnyH _ _ _ _ _ 16 (Array.replicate 16 false) _ _
      refine wpAnyH_take (i := 0) (oi := _) (v := _) (by simp only [List.getElem?_toArray, List.getElem?_cons_zero]; rfl) (by kernel_rfl) (by kernel_rfl) (by kernel_rfl) (by exact fun _ _ _ h => h) (Or.inl ⟨by rfl, by intro w' hSw; (try dsimp only at hSw); first | (go_simp; done) | (go_simp; with_reducible rfl)⟩) hHeld ?_
      simp only [Act.put, List.setIfInBounds_toArray, List.set_cons_zero, List.set_cons_succ]
      refine wpAnyH_take (i := 1) (oi := _) (v := _) (by simp only [List.getElem?_toArray, List.getElem?_cons_succ, List.getElem?_cons_zero]; rfl) (by kernel_rfl) (by kernel_rfl) (by kernel_rfl) (by exact fun _ _ _ h => h) (Or.inl ⟨by rfl, by intro w' hSw; (try dsimp only at hSw); first | (go_simp; done) | (go_simp; with_reducible rfl)⟩) hHeld ?_
      simp only [Act.put, List.setIfInBounds_toArray, List.set_cons_zero, List.set_cons_succ]
      refine wpAnyH_take (i := 2) (oi := _) (v := _) (by simp only [List.getElem?_toArray, List.getElem?_cons_succ, List.getElem?_cons_zero]; rfl) (by kernel_rfl) (by kernel_rfl) (by kernel_rfl) (by exact fun _ _ _ h => h) (Or.inl ⟨by rfl, by intro w' hSw; (try dsimp only at hSw); first | (go_simp; done) | (go_simp; with_reducible rfl)⟩) hHeld ?_
      simp only [Act.put, List.setIfInBounds_toArray, List.set_cons_zero, List.set_cons_succ]
      refine wpAnyH_take (i := 3) (oi := _) (v := _) (by simp only [List.getElem?_toArray, List.getElem?_cons_succ, List.getElem?_cons_zero]; rfl) (by kernel_rfl) (by kernel_rfl) (by kernel_rfl) (by exact fun _ _ _ h => h) (Or.inl ⟨by rfl, by intro w' hSw; (try dsimp only at hSw); first | (go_simp; done) | (go_simp; with_reducible rfl)⟩) hHeld ?_
      simp only [Act.put, List.setIfInBounds_toArray, List.set_cons_zero, List.set_cons_succ]
      refine wpAnyH_take (i := 5) (oi := _) (v := _) (by simp only [List.getElem?_toArray, List.getElem?_cons_succ, List.getElem?_cons_zero]; rfl) (by kernel_rfl) (by kernel_rfl) (by kernel_rfl) (by exact fun _ _ _ h => h) (Or.inl ⟨by rfl, by intro w' hSw; (try dsimp only at hSw); first | (go_simp; done) | (go_simp; with_reducible rfl)⟩) hHeld ?_
      simp only [Act.put, List.setIfInBounds_toArray, List.set_cons_zero, List.set_cons_succ]
      refine wpAnyH_take (i := 6) (oi := _) (v := _) (by simp only [List.getElem?_toArray, List.getElem?_cons_succ, List.getElem?_cons_zero]; rfl) (by kernel_rfl) (by kernel_rfl) (by kernel_rfl) (by exact fun _ _ _ h => h) (Or.inl ⟨by rfl, by intro w' hSw; (try dsimp only at hSw); first | (go_simp; done) | (go_simp; with_reducible rfl)⟩) hHeld ?_
      simp only [Act.put, List.setIfInBounds_toArray, List.set_cons_zero, List.set_cons_succ]
      refine wpAnyH_take (i := 7) (oi := _) (v := _) (by simp only [List.getElem?_toArray, List.getElem?_cons_succ, List.getElem?_cons_zero]; rfl) (by kernel_rfl) (by kernel_rfl) (by kernel_rfl) (by exact fun _ _ _ h => h) (Or.inl ⟨by rfl, by intro w' hSw; (try dsimp only at hSw); first | (go_simp; done) | (go_simp; with_reducible rfl)⟩) hHeld ?_
      simp only [Act.put, List.setIfInBounds_toArray, List.set_cons_zero, List.set_cons_succ]
      refine wpAnyH_take (i := 8) (oi := _) (v := _) (by simp only [List.getElem?_toArray, List.getElem?_cons_succ, List.getElem?_cons_zero]; rfl) (by kernel_rfl) (by kernel_rfl) (by kernel_rfl) (by exact fun _ _ _ h => h) (Or.inl ⟨by rfl, by intro w' hSw; (try dsimp only at hSw); first | (go_simp; done) | (go_simp; with_reducible rfl)⟩) hHeld ?_
      simp only [Act.put, List.setIfInBounds_toArray, List.set_cons_zero, List.set_cons_succ]
      refine wpAnyH_take (i := 9) (oi := _) (v := _) (by simp only [List.getElem?_toArray, List.getElem?_cons_succ, List.getElem?_cons_zero]; rfl) (by kernel_rfl) (by kernel_rfl) (by kernel_rfl) (by exact fun _ _ _ h => h) (Or.inl ⟨by rfl, by intro w' hSw; (try dsimp only at hSw); first | (go_simp; done) | (go_simp; with_reducible rfl)⟩) hHeld ?_
      simp only [Act.put, List.setIfInBounds_toArray, List.set_cons_zero, List.set_cons_succ]
      refine wpAnyH_take (i := 10) (oi := _) (v := _) (by simp only [List.getElem?_toArray, List.getElem?_cons_succ, List.getElem?_cons_zero]; rfl) (by kernel_rfl) (by kernel_rfl) (by kernel_rfl) (by exact fun _ _ _ h => h) (Or.inl ⟨by rfl, by intro w' hSw; (try dsimp only at hSw); first | (go_simp; done) | (go_simp; with_reducible rfl)⟩) hHeld ?_
      simp only [Act.put, List.setIfInBounds_toArray, List.set_cons_zero, List.set_cons_succ]
      refine wpAnyH_ready (rs := [4, 11]) (by kernel_rfl) (by simp) ?_
      refine (AllReadyH.cons rfl (fun K hK => ?_) (AllReadyH.cons rfl (fun K hK => ?_) AllReadyH.nil))
      · skip
        go_simp
        go_wp2_with fail
        refine hK.out _ _ d0 (fun hHeld => ?_)
        clear hK K
        refine wpAnyH_ready (rs := [11]) (by kernel_rfl) (by simp) ?_
        refine AllReadyH.cons rfl (fun K hK => ?_) AllReadyH.nil
        go_simp
        go_wp2_with fail
        refine hK.out _ _ e0 (fun hHeld => ?_)
        clear hK K
        refine wpAnyH_ready (rs := [12]) (by kernel_rfl) (by simp) ?_
        refine AllReadyH.cons (o := _) (by simp only [List.getElem?_toArray, List.getElem?_cons_succ, List.getElem?_cons_zero]; rfl) (fun K hK => ?_) AllReadyH.nil
        refine wpH_append (by rfl) rfl rfl rfl hrun ?_
        refine hK.out _ _ g0 (fun hHeld => ?_)
        clear hK K
        simp only [Act.put, List.setIfInBounds_toArray, List.set_cons_zero, List.set_cons_succ]
        refine wpAnyH_take (i := 13) (oi := _) (v := _) (by simp only [List.getElem?_toArray, List.getElem?_cons_succ, List.getElem?_cons_zero]; rfl) (by kernel_rfl) (by kernel_rfl) (by kernel_rfl) (by exact fun _ _ _ h => h) (Or.inl ⟨by rfl, by intro w' hSw; (try dsimp only at hSw); first | (go_simp; done) | (go_simp; with_reducible rfl)⟩) hHeld ?_
        simp only [Act.put, List.setIfInBounds_toArray, List.set_cons_zero, List.set_cons_succ]
        refine wpAnyH_take (i := 14) (oi := _) (v := _) (by simp only [List.getElem?_toArray, List.getElem?_cons_succ, List.getElem?_cons_zero]; rfl) (by kernel_rfl) (by kernel_rfl) (by kernel_rfl) (by exact fun _ _ _ h => h) (Or.inl ⟨by rfl, by intro w' hSw; (try dsimp only at hSw); first | (go_simp; done) | (go_simp; with_reducible rfl)⟩) hHeld ?_
        simp only [Act.put, List.setIfInBounds_toArray, List.set_cons_zero, List.set_cons_succ]
        refine wpAnyH_ready (rs := [15]) (by kernel_rfl) (by simp) ?_
        refine AllReadyH.cons rfl (fun K hK => ?_) AllReadyH.nil
        go_simp
        go_wp2_with fail
        refine hK.out _ _ h0' (fun hHeld => ?_)
        clear hK K
        refine wpAnyH_done (by kernel_rfl) ?_ _
        clear hHeld
        go_wp2
        go_roundw
        case rel => exact ⟨k + 1, _, by omega, by go_num, HF2.out.1, HF2.out.2⟩
        case measure => simp [intOf]; omega
      · skip
        go_simp
        go_wp2_with fail
        refine hK.out _ _ e0 (fun hHeld => ?_)
        clear hK K
        refine wpAnyH_ready (rs := [4]) (by kernel_rfl) (by simp) ?_
        refine AllReadyH.cons rfl (fun K hK => ?_) AllReadyH.nil
        go_simp
        go_wp2_with fail
        refine hK.out _ _ e0 (fun hHeld => ?_)
        clear hK K
        refine wpAnyH_ready (rs := [12]) (by kernel_rfl) (by simp) ?_
        refine AllReadyH.cons (o := _) (by simp only [List.getElem?_toArray, List.getElem?_cons_succ, List.getElem?_cons_zero]; rfl) (fun K hK => ?_) AllReadyH.nil
        refine wpH_append (by rfl) rfl rfl rfl hrun ?_
        refine hK.out _ _ g0 (fun hHeld => ?_)
        clear hK K
        simp only [Act.put, List.setIfInBounds_toArray, List.set_cons_zero, List.set_cons_succ]
        refine wpAnyH_take (i := 13) (oi := _) (v := _) (by simp only [List.getElem?_toArray, List.getElem?_cons_succ, List.getElem?_cons_zero]; rfl) (by kernel_rfl) (by kernel_rfl) (by kernel_rfl) (by exact fun _ _ _ h => h) (Or.inl ⟨by rfl, by intro w' hSw; (try dsimp only at hSw); first | (go_simp; done) | (go_simp; with_reducible rfl)⟩) hHeld ?_
        simp only [Act.put, List.setIfInBounds_toArray, List.set_cons_zero, List.set_cons_succ]
        refine wpAnyH_take (i := 14) (oi := _) (v := _) (by simp only [List.getElem?_toArray, List.getElem?_cons_succ, List.getElem?_cons_zero]; rfl) (by kernel_rfl) (by kernel_rfl) (by kernel_rfl) (by exact fun _ _ _ h => h) (Or.inl ⟨by rfl, by intro w' hSw; (try dsimp only at hSw); first | (go_simp; done) | (go_simp; with_reducible rfl)⟩) hHeld ?_
        simp only [Act.put, List.setIfInBounds_toArray, List.set_cons_zero, List.set_cons_succ]
        refine wpAnyH_ready (rs := [15]) (by kernel_rfl) (by simp) ?_
        refine AllReadyH.cons rfl (fun K hK => ?_) AllReadyH.nil
        go_simp
        go_wp2_with fail
        refine hK.out _ _ h0' (fun hHeld => ?_)
        clear hK K
        refine wpAnyH_done (by kernel_rfl) ?_ _
        clear hHeld
        go_wp2
        go_roundw
        case rel => exact ⟨k + 1, _, by omega, by go_num, HF2.out.1, HF2.out.2⟩
        case measure => simp [intOf]; omega
    · obtain rfl : k = xs.length := by omega
      rw [List.take_length] at HH
      clear hxk
      go_wp2
      go_ret
      exact ⟨rfl, ⟨_, HH.out⟩, HT.out⟩

end Go.Proofs.Ytgfbcekmnpdoeaa.Hds
