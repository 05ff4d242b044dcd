/-
  Ops of any layers round a number. No condition.
-/
import Derived.Test.YtocfhejjmefmcaaDoorFaOps0
import Derived.Test.YtocfhejjmefmcaaDoorFaRefO
import Derived.Test.YtocfhejjmefmcaaDoorFaFind
import Derived.Shelf.RegionOpen
namespace Go.Proofs.YtocfhejjmefmcaaDoor.Fa
open Go.ChangeShapes Go.WideShapes Go.ChangeAt Go.RowKit Go.Proofs.Fa Go.Shelf
attribute [local go_sem] Oper.semAt_some

/-- The operation of an error itself. -/
def opK (l : List Layer) : List ByteArray := match l with
  | [] => []
  | y :: _ => if y.join = true then [] else [y.op]
def opsK : List Key → List ByteArray
  | [] => []
  | k :: r => opK k.2.2 ++ opsK r
theorem opsK_append (a b : List Key) : opsK (a ++ b) = opsK a ++ opsK b := by induction a with
  | nil => rfl
  | cons k a ih => simp [opsK, ih]
theorem opsK_flat (l : List Layer) (a : ByteArray) (b : Option (Option Int)) : opsK (flat l a b) = opsOf l := by
  induction l generalizing a with
  | nil => rfl
  | cons y r ih =>
    by_cases hj : y.join = true
    · simp [flat, opsK, opK, opsOf, hj, opsK_append, ih]
    · simp [flat, opsK, opK, opsOf, hj, ih]
theorem opsK_le {a b : List Key} (h : a <+: b) : (opsK a).length ≤ (opsK b).length := by
  obtain ⟨r, rfl⟩ := h
  rw [opsK_append]; simp

/-- Where Ops stands: the operations so far lie in a row of its own. -/
def OpsI (z : Nat) (ks : List Key) (W : World) : Prop := ∃ v, W.heap[z]? = some (.cells #[v] 31 (0, 0)) ∧ W.ownsRow z 9 1 v (opsK ks).length (scells (opsK ks))
theorem opsI_own {β : Type} (C z : Nat) (f : β → List Key) : OwnM M C (fun s W => OpsI z (f s) W) := by
  intro s W W' row ⟨v, hz, ho⟩ hg hr
  have hne : ∀ k c t, W.heap[k]? = some (.cells c t (0, 0)) → t ≠ 94 → row ≠ some k := by
    intro k c t hk ht e
    obtain ⟨_, o, h2, h3⟩ := hr k e
    rw [hk] at h2
    cases h2
    exact not_M ht h3
  refine ⟨v, (hg.block z (lt_of_heap hz) (fun e => hne z _ _ hz (by decide) e.symm)).trans hz, ho.1, ?_⟩
  rcases ho.2 with hn | ⟨g, cap, cur, rfl, hb, hgg, rest⟩
  · exact .inl hn
  · exact .inr ⟨g, cap, cur, rfl, hb, (hg.block g (lt_of_heap hgg) (fun e => hne g _ _ hgg (by decide) e.symm)).trans hgg, rest⟩
theorem opsI_below {z : Nat} {ks : List Key} {W W' : World} (h : OpsI z ks W) (hb : Below W.heap.size W W') : OpsI z ks W' := by
  obtain ⟨v, hz, ho⟩ := h
  refine ⟨v, (hb.block z (lt_of_heap hz)).trans hz, ho.1, ?_⟩
  rcases ho.2 with hn | ⟨g, cap, cur, rfl, hb', hgg, rest⟩
  · exact .inl hn
  · exact .inr ⟨g, cap, cur, rfl, hb', (hb.block g (lt_of_heap hgg)).trans hgg, rest⟩
theorem opsI_same {z : Nat} {ks ks' : List Key} {W : World} (h : OpsI z ks W) (e : opsK ks' = opsK ks) : OpsI z ks' W := by
  unfold OpsI; rw [e]; exact h

set_option maxRecDepth 100000
set_option maxHeartbeats 2000000
theorem value_exact (g : Nat) (op : ByteArray) (n : Int) (v : Value) (hv : IsI v) (w : World) (h : w.heap[g]? = some (.cells #[.string op, .int .i64 n, v] 46 (0, 0))) :
    Calls Tryd.prog 30 #[.pointer (some ⟨g, 0, none⟩)] w fun e w' => e = .returned (.agg #[.string op, .int .i64 n, v]) ∧ w' = w.alloc (Obj.cells #[.string op, .int .i64 n, v] 46) := by
  have hlt := lt_of_heap h
  have c0 : w.cell? ⟨g, 0, none⟩ = some (.string op) := cell_of_heap h 0 _ rfl
  have c1 : w.cell? ⟨g, 1, none⟩ = some (.int .i64 n) := cell_of_heap h 1 _ rfl
  have c2 : w.cell? ⟨g, 2, none⟩ = some v := cell_of_heap h 2 _ rfl
  clear h
  rcases hv with rfl | ⟨t, u, rfl⟩
  all_goals
    go_enter Tryd.func30, Tryd.ntmps30
    go_wp2
    refine bodyPost_ret (v := .agg #[.string op, .int .i64 n, _]) (by simp [results, Tryd.f30, go_sem]; rfl) rfl ?_
    exact ⟨rfl, rfl⟩

theorem wpInH_append {F : Fence} {n : Nat} {P : Program} {o : Oper} {a : Act} {w w' : World} {tm : Nat → Option Bool} {K : Act → World → Prop} {Q : Exit → Act → World → Prop} {s x : Operand} {t : TypeId} {v v2 v' : Value} (hwant : Region.wanted o tm = true)
    (ho : o.op = .call { callee := .builtin .append, args := #[s, x], argTypes := #[t, t] }) (hs : a.eval s = v) (hx : a.eval x = v2) (hr : (Builtin.append_ #[t, t] o.type #[v, v2]).run P w = .ok v' w') (hK : K (a.put o.dst v') w') :
    if Region.wanted o tm = true then Oper.wpIn F n P o a w K Q else (∀ f, o.about P w a.eval = some f → F.fn f) ∧ K (a.put o.dst undef) w := by
  rw [if_pos hwant]
  unfold Oper.wpIn
  refine ⟨?_, ?_⟩
  · simp [Oper.about, ho, resolve, Target.leads, Sem.run_pure]
  · rw [Oper.semAt_plain F _ _ (by rw [ho]; intro c hc'; cases hc')]
    unfold execOp
    simp only [ho, resolve, invoke, builtin, Sem.run_bind, Sem.run_pure, Result.andThen_ok, List.map_toArray, List.map_cons, List.map_nil, hs, hx, hr]
    exact hK

theorem Ops_any (b : Option (Option Int)) (hb : b ≠ some none) (l : List Layer) (t : TypeId) (u : Value) (w : World) (hl : l.length ≤ 1000) (hx : ErrAt w b l (.iface t u)) :
    Calls Tryd.prog 10 #[.iface t u] w fun e w' => OpsAt w (opsOf l) e w' := by
  have HX : Hid (ErrAt w b l (.iface t u)) := hx
  have hI : IsI (.iface t u) := .inr ⟨_, _, rfl⟩
  clear hx
  refine (callsIn_wide (n := 9)).1 ?_
  refine callsIn_of_wp_marks Tryd.func10 rfl trivial ?_ rfl
  simp only [Tryd.ntmps10, List.size_toArray, List.length_cons, List.length_nil, Nat.reduceAdd, Nat.reduceSub, Array.replicate_succ, Array.replicate_zero, List.push_toArray, List.append_toArray, List.nil_append, List.cons_append]
  gi_wp2_with (refine ⟨trivial, ?_⟩; gi_at_call 28; refine (callsIn_wide.2 (all_any _ hI _)).mono ?_; rintro e w' ⟨rfl, rfl⟩)
  have hsz : (w.alloc (.cells #[.slice none 0 0] 31)).heap.size = w.heap.size + 1 := by simp
  have hbel : Below w.heap.size w ((w.alloc (.cells #[.slice none 0 0] 31)).alloc (.cells #[.iface t u] 25)) := ((Below.refl _ w).alloc (Nat.le_refl _) _).alloc (by simp) _
  refine rangeM (α := It w) rfl (by decide) (gf := 42) (lb := #[.pointer (some ⟨w.heap.size + 1, 0, none⟩)]) rfl trivial (enters_of Tryd.func42 (by kernel_rfl) rfl) M_other
    (all1_seq _ w _ (w.heap.size + 1) b l (.iface t u) hl HX.out hbel (by have h := cell_of_heap (heap_alloc_new (w.alloc (.cells #[.slice none 0 0] 31)) (.cells #[.iface t u] 25)) 0 (.iface t u) rfl; rw [hsz] at h; exact h)) (by simp; omega) (Below.refl _ _) (fun _ => rfl)
    (fun pre W => OpsI w.heap.size (pre.map It.key) W ∧ Below w.heap.size w W)
    (fun _ _ _ => False)
    (OwnM.and (opsI_own _ _ (fun (pre : List (It w)) => pre.map It.key)) (ownM_below (Nat.le_refl _) (by simp; omega))) ?stopOwn ⟨⟨.slice none 0 0, (Below.heap_alloc _ _ _ (by simp)).trans (heap_alloc_new w _), World.ownsRow_nil _ _ _ _⟩, hbel⟩
    (fun x => { tmps := #[.iface t u, undef, .slice none 0 0, .pointer (some ⟨w.heap.size, 0, none⟩), undef, x.1.v, undef, undef, .iface t u, .func (.func 42) #[] #[.pointer (some ⟨w.heap.size + 1, 0, none⟩)], .string x.1.ahead, x.1.v, undef, undef, undef, undef, undef, undef, undef, undef, undef, undef, undef, undef, undef], defers := [] }) ?assign ?body ?done ?stop
  case stopOwn => intro c s W W' row h _ _; exact h.elim
  case assign =>
    intro lp x W K hK
    simp only [encs]
    gi_wp2
    exact hK
  case body =>
    rintro lp pre ⟨⟨xa, xb, xl, xv⟩, hxa⟩ W ⟨hops, hbw⟩ hsp
    have hxb : xb ≠ some none := flat_base hb l ⟨#[]⟩ (xa, xb, xl) (by
      obtain ⟨r, hr⟩ := hsp
      rw [← hr]; simp [It.key, Item.key])
    have Hlen : Hid ((opsK (pre.map It.key)).length ≤ 1000) := by
      have h1 := opsK_le hsp
      rw [opsK_flat] at h1
      have h2 := opsOf_len l
      rw [List.map_append, opsK_append] at h1
      simp only [List.length_append] at h1
      show _ ≤ _
      omega
    have Hbw : Hid (Below w.heap.size w W) := hbw
    have Hops : Hid (OpsI w.heap.size (pre.map It.key) W) := hops
    have E1 : ErrAt W xb xl xv := ErrAt.below hbw hxa
    clear hops hbw hsp
    dsimp only
    match xl, E1 with
    | [], E1 =>
      have hxv : xv = baseV xb := E1
      gi_wp2_with fail
      refine ⟨trivial, ?_⟩
      rw [hxv]
      refine (CallsIn.inRound lp (callsIn_wide.2 (asFault_base xb hxb W))).mono ?_
      rintro e w1 ⟨rfl, rfl⟩
      gi_wp2
      exact ⟨keepsM_below (Below.refl _ _), Below.refl _ _, opsI_same Hops.out (by simp [opsK_append, opsK, opK, It.key, Item.key]), Hbw.out⟩
    | y :: r, .inl ⟨hj, g, cap, v', hv, _⟩ =>
      subst hv
      have HE : Hid (opsK ((pre ++ [(⟨⟨xa, xb, y :: r, _⟩, hxa⟩ : It w)]).map It.key) = opsK (pre.map It.key)) := by
        show _ = _
        simp [opsK_append, opsK, opK, It.key, Item.key, hj]
      gi_wp2_with fail
      refine ⟨trivial, ?_⟩
      refine (CallsIn.inRound lp (callsIn_wide.2 (asFault_many _ W))).mono ?_
      rintro e w1 ⟨rfl, rfl⟩
      gi_wp2
      exact ⟨keepsM_below (Below.refl _ _), Below.refl _ _, opsI_same Hops.out HE.out, Hbw.out⟩
    | y :: r, .inr ⟨hj, g, v', hv, hg, hr⟩ =>
      subst hv
      have HE : Hid (opsK ((pre ++ [(⟨⟨xa, xb, y :: r, _⟩, hxa⟩ : It w)]).map It.key) = opsK (pre.map It.key) ++ [y.op]) := by
        show _ = _
        simp [opsK_append, opsK, opK, It.key, Item.key, hj]
      have HG : Hid (W.heap[g]? = some (.cells #[.string y.op, .int .i64 y.pos, v'] 46 (0, 0))) := hg
      have HI : Hid (IsI v') := hr.isI
      clear hr hg
      gi_wp2_with fail
      refine ⟨trivial, ?_⟩
      refine (CallsIn.inRound lp (callsIn_wide.2 (asFault_fault _ W))).mono ?_
      rintro e w1 ⟨rfl, rfl⟩
      gi_wp2_with fail
      obtain ⟨v, hz, ho⟩ := Hops.out
      obtain ⟨i0, hi, hz0, hz1, hz2⟩ := info_parts info_str
      have hlen := Hlen.out
      have hzW : w.heap.size < w1.heap.size := lt_of_heap hz
      obtain ⟨WA, hWA⟩ : ∃ WA, WA = (w1.alloc (Obj.cells #[.string y.op, .int .i64 y.pos, v'] 46)).alloc (Obj.cells #[.string y.op] 9) := ⟨_, rfl⟩
      have hbA : Below w1.heap.size w1 WA.drew := by rw [hWA]; exact (((Below.refl _ w1).alloc (Nat.le_refl _) _).alloc (by simp) _).drew
      have hoA : WA.drew.ownsRow w.heap.size 9 1 v (opsK (pre.map It.key)).length (scells (opsK (pre.map It.key))) := by
        rw [hWA]; exact ((ho.alloc _).alloc _).drew
      have hzA : WA.drew.heap[w.heap.size]? = some (.cells #[v] 31 (0, 0)) := (hbA.block _ hzW).trans hz
      have hnA : ∀ j u, [Value.string y.op][j]? = some u → WA.drew.cell? ((⟨w1.heap.size + 1, 0, none⟩ : Addr).add j) = some u := by
        intro j u hu
        have hj : j = 0 := by
          rcases Nat.eq_zero_or_pos j with h | h
          · exact h
          · rw [List.getElem?_eq_none (by simp; omega)] at hu; cases hu
        subst hj
        cases hu
        have hh : WA.drew.heap[w1.heap.size + 1]? = some (.cells #[.string y.op] 9 (0, 0)) := by
          rw [hWA]
          have := heap_alloc_new (w1.alloc (Obj.cells #[.string y.op, .int .i64 y.pos, v'] 46)) (Obj.cells #[.string y.op] 9)
          rw [World.size_alloc] at this
          exact this
        have := cell_of_heap hh 0 _ rfl
        simpa [Addr.add_lit] using this
      obtain ⟨v2, w2, hrun, hown2, hgrow, hnear⟩ := run_append_near (P := Tryd.prog) WA.drew w.heap.size 31 31 9 i0 _ 1 16 Tryd.underlying31 hi hz0 hz1 hz2 rfl (by decide) v _ _ hoA ⟨w1.heap.size + 1, 0, none⟩ 1 1 [.string y.op] rfl hnA (by intro u hu; simp only [List.mem_cons, List.not_mem_nil, or_false] at hu; subst hu; rfl) (by unfold maxLen; omega) (by omega) (by have := hbA.size; omega)
      have HGd : Hid (w1.drew.heap[g]? = some (.cells #[.string y.op, .int .i64 y.pos, v'] 46 (0, 0))) := HG.out
      have hz2 : w2.heap[w.heap.size]? = some (.cells #[v] 31 (0, 0)) := (hgrow.block w.heap.size (by have := hbA.size; omega) (fun e => (by
        rcases hoA.2 with ⟨hv0, _⟩ | ⟨q, cq, cu, hv0, _, hq, _⟩
        · rw [hv0] at e; cases e
        · rw [hv0] at e
          have e' : w.heap.size = q := Option.some.inj e
          rw [← e', hzA] at hq
          cases hq))).trans hzA
      have n0 := cell_of_heap hz2 0 _ rfl
      have nf := free_of_heap hz2 0
      obtain ⟨g2, cap2, hv2⟩ : ∃ g2 cap2, v2 = .slice (some ⟨g2, 0, none⟩) ((opsK (pre.map It.key)).length + 1) cap2 := by
        rcases hown2.2 with ⟨_, h0⟩ | ⟨q, cq, cu, hv0, _⟩
        · omega
        · exact ⟨q, cq, hv0⟩
      obtain ⟨av, capv, hv⟩ : ∃ a cap, v = .slice a (opsK (pre.map It.key)).length cap := by
        rcases ho.2 with ⟨h1, h0⟩ | ⟨q, cq, cu, hv0, _⟩
        · exact ⟨none, 0, by rw [h1, h0]⟩
        · exact ⟨_, _, hv0⟩
      have HEND : Hid (KeepsM M w1 (w2.setCell ⟨w.heap.size, 0, none⟩ v2) ∧ Below w.heap.size w1 (w2.setCell ⟨w.heap.size, 0, none⟩ v2) ∧ OpsI w.heap.size ((pre ++ [(⟨⟨xa, xb, y :: r, .iface 44 (.pointer (some ⟨g, 0, none⟩))⟩, hxa⟩ : It w)]).map It.key) (w2.setCell ⟨w.heap.size, 0, none⟩ v2) ∧ Below w.heap.size w (w2.setCell ⟨w.heap.size, 0, none⟩ v2)) := by
        have hoB : ∀ k, v.ownBlock = some k → w.heap.size ≤ k := by
          intro k hk
          rcases hoA.2 with ⟨hv0, _⟩ | ⟨q, cq, cu, hv0, hq, _⟩
          · rw [hv0] at hk; cases hk
          · rw [hv0] at hk; cases hk; exact hq
        have b2 : Below w.heap.size w1 w2 := (hbA.mono (Nat.le_of_lt hzW)).grown hgrow (by have := hbA.size; omega) hoB
        have b3 : Below w.heap.size w1 (w2.setCell ⟨w.heap.size, 0, none⟩ v2) := b2.setCell (p := ⟨w.heap.size, 0, none⟩) (Nat.le_refl _) _
        refine ⟨(((keepsM_below hbA).trans (KeepsM.grown hgrow (fun j e o hj hm => ?_))).trans (KeepsM.grown (grown_set w2 w.heap.size 0 _) (fun j e o hj hm => ?_))), b3, ⟨v2, box_set hz2 _, ?_⟩, Hbw.out.trans b3⟩
        · rcases hoA.2 with ⟨hv0, _⟩ | ⟨q, cq, cu, hv0, _, hq, _⟩
          · rw [hv0] at e; cases e
          · rw [hv0] at e; cases e; rw [hq] at hj; cases hj; exact not_M (by decide) hm
        · cases e
          rw [hz2] at hj
          cases hj
          exact not_M (by decide) hm
        · rw [HE.out, List.length_append, show scells (opsK (pre.map It.key) ++ [y.op]) = scells (opsK (pre.map It.key)) ++ [.string y.op] by simp [scells]]
          refine ⟨hown2.1, ?_⟩
          rcases hown2.2 with hn | ⟨q, cq, cu, hv0, hq, hqq, rest⟩
          · exact .inl hn
          · refine .inr ⟨q, cq, cu, hv0, hq, (heap_setCell_other w2 ⟨w.heap.size, 0, none⟩ q _ (fun e => ?_)).trans hqq, rest⟩
            have e' : q = w.heap.size := e
            rw [e', hz2] at hqq
            cases hqq
      rw [hWA] at hrun
      clear hown2 hgrow hnear hnA hzA hoA hbA ho hWA WA
      subst hv2
      subst hv
      have hc := cell_of_heap hz 0 _ rfl
      refine wpIn_region_any (by kernel_rfl) ?_
      change wpAnyIn _ _ _ _ _ _ 7 (Array.replicate 7 false) _ (World.drew _)
      refine wpAnyIn_ready (rs := [0, 1]) (by kernel_rfl) (by simp) ?_
      refine AllReadyIn.cons rfl (fun K hK => ?_) (AllReadyIn.cons rfl (fun K hK => ?_) AllReadyIn.nil)
      · skip
        go_simp
        refine hK _ _ ?_
        clear hK K
        refine wpAnyIn_ready (rs := [1]) (by kernel_rfl) (by simp) ?_
        refine AllReadyIn.cons rfl (fun K hK => ?_) AllReadyIn.nil
        go_simp
        refine hK _ _ ?_
        clear hK K
        refine wpAnyIn_ready (rs := [2]) (by kernel_rfl) (by simp) ?_
        refine AllReadyIn.cons rfl (fun K hK => ?_) AllReadyIn.nil
        go_simp
        gi_wp2_with fail
        refine ⟨trivial, ?_⟩
        refine (CallsIn.inRound lp (callsIn_wide.2 (value_exact g y.op y.pos v' HI.out _ HGd.out))).mono ?_
        rintro e w3 ⟨rfl, rfl⟩
        gi_wp2_with fail
        refine wpAnyIn_ready (rs := [3]) (by kernel_rfl) (by simp) ?_
        refine AllReadyIn.cons rfl (fun K hK => ?_) AllReadyIn.nil
        go_simp
        refine hK _ _ ?_
        clear hK K
        refine wpAnyIn_ready (rs := [4]) (by kernel_rfl) (by simp) ?_
        refine AllReadyIn.cons rfl (fun K hK => ?_) AllReadyIn.nil
        go_simp
        refine hK _ _ ?_
        clear hK K
        refine wpAnyIn_ready (rs := [5]) (by kernel_rfl) (by simp) ?_
        refine AllReadyIn.cons (o := _) (by simp only [List.getElem?_toArray, List.getElem?_cons_succ, List.getElem?_cons_zero]; rfl) (fun K hK => ?_) AllReadyIn.nil
        refine wpInH_append (by rfl) rfl rfl rfl hrun ?_
        refine hK _ _ ?_
        clear hK K
        simp only [Act.put, List.setIfInBounds_toArray, List.set_cons_zero, List.set_cons_succ]
        refine wpAnyIn_ready (rs := [6]) (by kernel_rfl) (by simp) ?_
        refine AllReadyIn.cons rfl (fun K hK => ?_) AllReadyIn.nil
        go_simp
        refine hK _ _ ?_
        clear hK K
        refine wpAnyIn_done (by kernel_rfl) ?_ _
        gi_wp2
        exact HEND.out
      · skip
        go_simp
        refine hK _ _ ?_
        clear hK K
        refine wpAnyIn_ready (rs := [0, 2]) (by kernel_rfl) (by simp) ?_
        refine AllReadyIn.cons rfl (fun K hK => ?_) (AllReadyIn.cons rfl (fun K hK => ?_) AllReadyIn.nil)
        · skip
          go_simp
          refine hK _ _ ?_
          clear hK K
          refine wpAnyIn_ready (rs := [2]) (by kernel_rfl) (by simp) ?_
          refine AllReadyIn.cons rfl (fun K hK => ?_) AllReadyIn.nil
          go_simp
          gi_wp2_with fail
          refine ⟨trivial, ?_⟩
          refine (CallsIn.inRound lp (callsIn_wide.2 (value_exact g y.op y.pos v' HI.out _ HGd.out))).mono ?_
          rintro e w3 ⟨rfl, rfl⟩
          gi_wp2_with fail
          refine wpAnyIn_ready (rs := [3]) (by kernel_rfl) (by simp) ?_
          refine AllReadyIn.cons rfl (fun K hK => ?_) AllReadyIn.nil
          go_simp
          refine hK _ _ ?_
          clear hK K
          refine wpAnyIn_ready (rs := [4]) (by kernel_rfl) (by simp) ?_
          refine AllReadyIn.cons rfl (fun K hK => ?_) AllReadyIn.nil
          go_simp
          refine hK _ _ ?_
          clear hK K
          refine wpAnyIn_ready (rs := [5]) (by kernel_rfl) (by simp) ?_
          refine AllReadyIn.cons (o := _) (by simp only [List.getElem?_toArray, List.getElem?_cons_succ, List.getElem?_cons_zero]; rfl) (fun K hK => ?_) AllReadyIn.nil
          refine wpInH_append (by rfl) rfl rfl rfl hrun ?_
          refine hK _ _ ?_
          clear hK K
          simp only [Act.put, List.setIfInBounds_toArray, List.set_cons_zero, List.set_cons_succ]
          refine wpAnyIn_ready (rs := [6]) (by kernel_rfl) (by simp) ?_
          refine AllReadyIn.cons rfl (fun K hK => ?_) AllReadyIn.nil
          go_simp
          refine hK _ _ ?_
          clear hK K
          refine wpAnyIn_done (by kernel_rfl) ?_ _
          gi_wp2
          exact HEND.out
        · skip
          go_simp
          gi_wp2_with fail
          refine ⟨trivial, ?_⟩
          refine (CallsIn.inRound lp (callsIn_wide.2 (value_exact g y.op y.pos v' HI.out _ HGd.out))).mono ?_
          rintro e w3 ⟨rfl, rfl⟩
          gi_wp2_with fail
          refine wpAnyIn_ready (rs := [0, 3]) (by kernel_rfl) (by simp) ?_
          refine AllReadyIn.cons rfl (fun K hK => ?_) (AllReadyIn.cons rfl (fun K hK => ?_) AllReadyIn.nil)
          · skip
            go_simp
            refine hK _ _ ?_
            clear hK K
            refine wpAnyIn_ready (rs := [3]) (by kernel_rfl) (by simp) ?_
            refine AllReadyIn.cons rfl (fun K hK => ?_) AllReadyIn.nil
            go_simp
            refine hK _ _ ?_
            clear hK K
            refine wpAnyIn_ready (rs := [4]) (by kernel_rfl) (by simp) ?_
            refine AllReadyIn.cons rfl (fun K hK => ?_) AllReadyIn.nil
            go_simp
            refine hK _ _ ?_
            clear hK K
            refine wpAnyIn_ready (rs := [5]) (by kernel_rfl) (by simp) ?_
            refine AllReadyIn.cons (o := _) (by simp only [List.getElem?_toArray, List.getElem?_cons_succ, List.getElem?_cons_zero]; rfl) (fun K hK => ?_) AllReadyIn.nil
            refine wpInH_append (by rfl) rfl rfl rfl hrun ?_
            refine hK _ _ ?_
            clear hK K
            simp only [Act.put, List.setIfInBounds_toArray, List.set_cons_zero, List.set_cons_succ]
            refine wpAnyIn_ready (rs := [6]) (by kernel_rfl) (by simp) ?_
            refine AllReadyIn.cons rfl (fun K hK => ?_) AllReadyIn.nil
            go_simp
            refine hK _ _ ?_
            clear hK K
            refine wpAnyIn_done (by kernel_rfl) ?_ _
            gi_wp2
            exact HEND.out
          · skip
            go_simp
            refine hK _ _ ?_
            clear hK K
            refine wpAnyIn_ready (rs := [0, 4]) (by kernel_rfl) (by simp) ?_
            refine AllReadyIn.cons rfl (fun K hK => ?_) (AllReadyIn.cons rfl (fun K hK => ?_) AllReadyIn.nil)
            · skip
              go_simp
              refine hK _ _ ?_
              clear hK K
              refine wpAnyIn_ready (rs := [4]) (by kernel_rfl) (by simp) ?_
              refine AllReadyIn.cons rfl (fun K hK => ?_) AllReadyIn.nil
              go_simp
              refine hK _ _ ?_
              clear hK K
              refine wpAnyIn_ready (rs := [5]) (by kernel_rfl) (by simp) ?_
              refine AllReadyIn.cons (o := _) (by simp only [List.getElem?_toArray, List.getElem?_cons_succ, List.getElem?_cons_zero]; rfl) (fun K hK => ?_) AllReadyIn.nil
              refine wpInH_append (by rfl) rfl rfl rfl hrun ?_
              refine hK _ _ ?_
              clear hK K
              simp only [Act.put, List.setIfInBounds_toArray, List.set_cons_zero, List.set_cons_succ]
              refine wpAnyIn_ready (rs := [6]) (by kernel_rfl) (by simp) ?_
              refine AllReadyIn.cons rfl (fun K hK => ?_) AllReadyIn.nil
              go_simp
              refine hK _ _ ?_
              clear hK K
              refine wpAnyIn_done (by kernel_rfl) ?_ _
              gi_wp2
              exact HEND.out
            · skip
              go_simp
              refine hK _ _ ?_
              clear hK K
              refine wpAnyIn_ready (rs := [0]) (by kernel_rfl) (by simp) ?_
              refine AllReadyIn.cons rfl (fun K hK => ?_) AllReadyIn.nil
              go_simp
              refine hK _ _ ?_
              clear hK K
              refine wpAnyIn_ready (rs := [5]) (by kernel_rfl) (by simp) ?_
              refine AllReadyIn.cons (o := _) (by simp only [List.getElem?_toArray, List.getElem?_cons_succ, List.getElem?_cons_zero]; rfl) (fun K hK => ?_) AllReadyIn.nil
              refine wpInH_append (by rfl) rfl rfl rfl hrun ?_
              refine hK _ _ ?_
              clear hK K
              simp only [Act.put, List.setIfInBounds_toArray, List.set_cons_zero, List.set_cons_succ]
              refine wpAnyIn_ready (rs := [6]) (by kernel_rfl) (by simp) ?_
              refine AllReadyIn.cons rfl (fun K hK => ?_) AllReadyIn.nil
              go_simp
              refine hK _ _ ?_
              clear hK K
              refine wpAnyIn_done (by kernel_rfl) ?_ _
              gi_wp2
              exact HEND.out
  case done =>
    rintro D ys W hD hys ⟨⟨v, hz, ho⟩, hbw⟩ hK
    rw [hys, opsK_flat] at ho
    have hc := cell_of_heap hz 0 _ rfl
    have hf := free_of_heap hz 0
    have hD1 : w.heap.size + 1 ≤ D := by simp at hD; omega
    gi_wp2
    refine ⟨by simp, .inl ⟨_, _, rfl, run_takeDeferred hK, ?_⟩⟩
    refine ⟨v, ?_, ⟨v, rfl, ?_, hbw.trans (belowK_b (w := w) (Nat.le_refl _) _ D _ _ (by omega) hK rfl rfl)⟩⟩
    · simp [results, Tryd.f10, go_sem]
    · refine ⟨ho.1, ?_⟩
      rcases ho.2 with hn | ⟨q, cq, cu, hv0, hq, hqq, rest⟩
      · exact .inl hn
      · refine .inr ⟨q, cq, cu, hv0, hq, (World.putObj_heap_other (fun e => ?_)).trans hqq, rest⟩
        rw [e, hK] at hqq
        cases hqq
  case stop =>
    rintro D c pre W hD hpre h
    exact h.elim

end Go.Proofs.YtocfhejjmefmcaaDoor.Fa
