/-
  Whoever leaves, in whatever order: what the law answers. No condition.
-/
import Derived.Test.YtmapaplpoogpfaaHdSp
import Derived.Test.YtmapaplpoogpfaaHdO
import Derived.Test.YtmapaplpoogpfaaNvItems
namespace Go.Proofs.Ytmapaplpoogpfaa.Hd
open Go.ChangeShapes Go.WideShapes Go.ChangeAt Go.RowKit Go.Proofs.Fa
open Go.Proofs.Ytmapaplpoogpfaa.Hdi
open Go.Proofs.Ytmapaplpoogpfaa.Nv (Turn Grow lt_of_heap lt_of_cell cell_of_heap free_of_heap icells scells icells_one scells_one CellsAt ints_of_trod)

set_option maxRecDepth 100000
set_option maxHeartbeats 16000000

/-- The law's first half under way: the row of tickets is that of those inside; n things are held. -/
structure OrdAt (w1 wr : World) (tv : Value) (s : HS Int) (a n : Int) : Prop where
  play : PlayX (fun q => q < w1.heap.size ∨ tv.ownBlock = some q) w1 wr w1.heap.size s
  row : TRow wr w1.heap.size tv s.m
  ord : OrdI s a n
theorem OrdAt.mlen {w1 wr : World} {tv : Value} {s : HS Int} {a n : Int} (h : OrdAt w1 wr tv s a n) : s.m.length ≤ 1000 := by
  have hok := h.play.ok
  have : ∀ (m : List Int) (lo hi : Int), m.Pairwise (· < ·) → (∀ t ∈ m, lo ≤ t ∧ t ≤ hi) → (m.length : Int) ≤ max 0 (hi - lo + 1) := by
    intro m
    induction m with
    | nil => intro lo hi _ _; simp only [List.length_nil]; omega
    | cons x r ih =>
      intro lo hi hp hb
      obtain ⟨h1, h2⟩ := List.pairwise_cons.1 hp
      have hx := hb x (List.mem_cons_self ..)
      have := ih (x + 1) hi h2 (fun t ht => ⟨by have := h1 t ht; omega, (hb t (List.mem_cons_of_mem _ ht)).2⟩)
      simp only [List.length_cons]
      omega
  have h1 := this s.m 1 s.last hok.asc (fun t ht => (hok.inn t ht).2)
  have h2 := hok.lastB
  have h3 := hok.last0
  omega
theorem OrdAt.hlt {w1 wr : World} {tv : Value} {s : HS Int} {a n : Int} (h : OrdAt w1 wr tv s a n) (q : Nat) (hq : q < w1.heap.size ∨ tv.ownBlock = some q) : q < wr.heap.size := by
  rcases hq with hq | hq
  · have := h.play.bel.size; omega
  · exact h.row.lt q hq

theorem app_one {w1 w2 : World} {tv : Value} {l : List Int} {s : HS Int} (hrow : TRow w2 w1.heap.size tv l) (hp : PlayX (fun q => q < w1.heap.size ∨ tv.ownBlock = some q) w1 w2 w1.heap.size s) (x : Int) (hl : l.length ≤ 1000) :
    ∃ v' w3, (Builtin.append_ #[29, 29] 29 #[tv, .slice (some ⟨w2.heap.size, 0, none⟩) 1 1]).run Try.prog (w2.alloc (Obj.cells #[.int .i64 x] 3)) = .ok v' w3 ∧ TRow w3 w1.heap.size v' (l ++ [x]) ∧ PlayX (fun q => q < w1.heap.size ∨ v'.ownBlock = some q) w1 w3 w1.heap.size s := by
  have hb : Below w2.heap.size w2 (w2.alloc (Obj.cells #[.int .i64 x] 3)) := (Below.refl _ _).alloc (Nat.le_refl _) _
  have hr2 : TRow (w2.alloc (Obj.cells #[.int .i64 x] 3)) w1.heap.size tv l := hrow.keep (fun g hg => hb.block g (hrow.lt g hg))
  have hs := hp.bel.size
  obtain ⟨v', w3, hrun, hr, hg, hn⟩ := app_all (m := [x]) hr2 (by rw [World.size_alloc]; omega) (by omega) (lit_at w2 x) (by show 1 ≤ 100000; decide) 29
  refine ⟨v', w3, hrun, hr, ?_⟩
  have hp2 := hp.below hb
  have hp3 := hp2.turned (S' := fun q => tv.ownBlock = some q) (Turn.grown hg (fun g e => e)) (fun q hq => .inl (.inr hq)) (fun q hq => hrow.ge q hq)
  refine hp3.mono (fun q hq => ?_)
  rcases hq with hq | hq
  · exact .inl (.inl (.inl hq))
  · rcases hn with hn | ⟨g, hn, hgs⟩
    · exact .inl (.inl (.inr (hn ▸ hq)))
    · rw [hn] at hq
      injection hq with hq
      subst hq
      exact .inr hgs

theorem idx_ok (x : Int) (n : Nat) (hn : 0 < n) (hb : n ≤ 1000) : ∃ kk : Nat, (wrap64 (x.tmod n + n)).tmod n = kk ∧ kk < n := by
  have h1 : x.tmod n < n := Int.tmod_lt_of_pos x (by omega)
  have h2 : (-x).tmod n < n := Int.tmod_lt_of_pos (-x) (by omega)
  rw [Int.neg_tmod] at h2
  have hw : wrap64 (x.tmod n + n) = x.tmod n + n := by unfold wrap64; omega
  rw [hw, Int.tmod_eq_emod_of_nonneg (by omega)]
  have h3 := Int.emod_nonneg (x.tmod n + n) (b := (n : Int)) (by omega)
  have h4 := Int.emod_lt_of_pos (x.tmod n + n) (b := (n : Int)) (by omega)
  exact ⟨((x.tmod n + n) % n).toNat, by omega, by omega⟩

theorem cut_row (W : World) (g off n cap k : Nat) (l : List Int) (h : TAt W (.slice (some ⟨g, off, none⟩) n cap) l) (hn : n = l.length) (hk : k < l.length) (hl : l.length ≤ 1000) :
    ∃ v4 W4 v5 W5, (Builtin.append_ #[29, 29] 29 #[.slice (some ⟨W.heap.size, 0, none⟩) 0 0, .slice (some ⟨g, off, none⟩) k cap]).run Try.prog (W.alloc (Obj.cells #[] 3)) = .ok v4 W4 ∧
      (Builtin.append_ #[29, 29] 29 #[v4, .slice (if cap = k + 1 then some ⟨g, off, none⟩ else some ⟨g, off + (k + 1), none⟩) (n - (k + 1)) (cap - (k + 1))]).run Try.prog W4 = .ok v5 W5 ∧
      TRow W5 W.heap.size v5 (l.take k ++ l.drop (k + 1)) ∧ Below W.heap.size W W5 := by
  subst hn
  rcases h with ⟨h, _⟩ | ⟨g', off', cap', he, hc1, hc2, hgl, hc⟩
  · cases h
  cases he
  have hb0 : Below W.heap.size W (W.alloc (Obj.cells #[] 3)) := (Below.refl _ _).alloc (Nat.le_refl _) _
  have hlit : TRow (W.alloc (Obj.cells #[] 3)) W.heap.size (.slice (some ⟨W.heap.size, 0, none⟩) 0 0) [] := World.ownsRow_lit W #[] 0 (Nat.le_refl W.heap.size) (by decide) rfl
  have ht1 : TAt (W.alloc (Obj.cells #[] 3)) (.slice (some ⟨g, off, none⟩) k cap) (l.take k) := by
    have e : (l.take k).length = k := by rw [List.length_take]; omega
    refine .inr ⟨g, off, cap, by rw [e], by omega, hc2, by rw [World.size_alloc]; omega, fun i hi => ?_⟩
    rw [List.getElem_take]
    exact (hb0.cell (p := ⟨g, off + i, none⟩) hgl).trans (hc i (by omega))
  obtain ⟨v4, W4, hr1, h4, hg4, hn4⟩ := app_all hlit (by rw [World.size_alloc]; omega) (by decide) ht1 (by rw [List.length_take]; omega) 29
  have hb4 : Below W.heap.size W W4 := hb0.grown hg4 (by rw [World.size_alloc]; omega) (fun q e => by cases e; exact Nat.le_refl _)
  have ht2 : TAt W4 (.slice (if cap = k + 1 then some ⟨g, off, none⟩ else some ⟨g, off + (k + 1), none⟩) (l.length - (k + 1)) (cap - (k + 1))) (l.drop (k + 1)) := by
    have e : (l.drop (k + 1)).length = l.length - (k + 1) := List.length_drop
    by_cases hck : cap = k + 1
    · rw [if_pos hck]
      refine .inr ⟨g, off, _, by rw [e], by omega, by omega, by have := hb4.size; omega, fun i hi => by omega⟩
    · rw [if_neg hck]
      refine .inr ⟨g, off + (k + 1), _, by rw [e], by omega, by omega, by have := hb4.size; omega, fun i hi => ?_⟩
      rw [List.getElem_drop, Nat.add_assoc]
      exact (hb4.cell (p := ⟨g, off + (k + 1 + i), none⟩) hgl).trans (hc (k + 1 + i) (by omega))
  rw [List.nil_append] at h4
  obtain ⟨v5, W5, hr2, h5, hg5, _⟩ := app_all h4 hb4.size (by rw [List.length_take]; omega) ht2 (by rw [List.length_drop]; omega) 29
  exact ⟨v4, W4, v5, W5, hr1, hr2, h5, hb4.grown hg5 hb4.size (fun q e => h4.ge q e)⟩

def slen : Value → Nat
  | .slice _ n _ => n
  | _ => 0

theorem lit_one (W : World) (x : Int) (j : Nat) (u : Value) (h : [Value.int .i64 x][j]? = some u) : (W.alloc (Obj.cells #[.int .i64 x] 3)).cell? ((⟨W.heap.size, 0, none⟩ : Addr).add j) = some u := by
  rw [Addr.add_lit]
  cases j with
  | zero => cases h; exact cell_of_heap (heap_alloc_new W _) 0 _ rfl
  | succ j => cases h

theorem holdOrder_calls {H : Type} {enc : TypeId × Value → H} {sp : Nat → Bool} {held : Bool} {d0 d1 : DataW H} {p0 p1 : List MemPlace} (a0 : Option Addr) (len0 cap0 : Nat) (a1 : Option Addr) (len1 cap1 : Nat) (w : World)
    (ht0 : DataW.Trod enc Try.prog w 0 sp held 29 (.slice a0 len0 cap0) d0 p0) (ht1 : DataW.Trod enc Try.prog w 0 sp held 29 (.slice a1 len1 cap1) d1 p1) :
    Calls Try.prog 7 #[.slice a0 len0 cap0, .slice a1 len1 cap1] w fun e w' => e = .returned (.bool true) ∧ Below w.heap.size w w' := by
  obtain ⟨i0, hi, hz0, hz1, hz2⟩ := info_parts info_t
  obtain ⟨L0, hL0, hLw0, hlm0, _⟩ := ints_of_trod ht0
  obtain ⟨L1, hL1, hLw1, hlm1, _⟩ := ints_of_trod ht1
  have HL0 : Hid (CellsAt w a0 len0 (fun i => .int .i64 (L0 i))) := hL0
  have HL1 : Hid (CellsAt w a1 len1 (fun i => .int .i64 (L1 i))) := hL1
  have HW1 : Hid (∀ i, i < len1 → (Lit.int .i64 (L1 i)).wf = true) := hLw1
  clear ht0 ht1 hL0 hL1 hLw0 hLw1
  go_enter Try.func7, Try.ntmps7
  go_wp2_with fail
  refine (Hds.speaks_any w).mono ?_
  rintro e w1 ⟨rfl, hb1⟩
  have HB1 : Hid (Below w.heap.size w w1) := hb1
  clear hb1
  go_wp2_with fail
  go_loopw [6, 7, 8] (fun tv nx i wr => ∃ (k n : Nat) (s : HS Int), k ≤ len0 ∧ k ≤ 12 ∧ n ≤ 3 * k ∧ i = .int .i64 k ∧ nx = .int .i64 n ∧ s.last = k ∧ OrdAt w1 wr tv s 0 n) (fun _ _ i _ => 12 - (intOf i).toNat)
  case atStart => exact ⟨0, 0, _, Nat.zero_le _, Nat.zero_le _, Nat.zero_le _, rfl, rfl, rfl, ⟨(PlayX.new w1).mono (fun q hq => by rcases hq with hq | hq; exact hq; cases hq), World.ownsRow_nil _ _ _ _, OrdI.new⟩⟩
  case round =>
    obtain ⟨k, n, s, hk, hk12, hn, rfl, rfl, hlast, ho⟩ := hrel
    have HO : Hid (OrdAt w1 wr u6 s 0 n) := ho
    have HLS : Hid (s.last = k) := hlast
    clear ho hlast
    by_cases hlt : k < len0 ∧ k < 12
    · obtain ⟨hlt1, hlt2⟩ := hlt
      have hE := x_enter HO.out.play (by have := HLS.out; omega) HO.out.hlt
      have hrow := HO.out.row
      have hml : s.m.length ≤ 1000 := HO.out.mlen
      go_wp2_with fail
      refine hE.mono ?_
      rintro e w2 ⟨rfl, h2, k2⟩
      clear hE
      have hrow2 : TRow w2 w1.heap.size u6 s.m := k2.row hrow (fun g hg => .inr hg)
      obtain ⟨v3, w3, hrun, hrow3, hp3⟩ := app_one hrow2 h2 (s.last + 1) hml
      have HO3 : Hid (OrdAt w1 w3 v3 (enterF s) 0 n) := ⟨hp3, hrow3, HO.out.ord.enter⟩
      obtain ⟨ta, tc, rfl⟩ := hrow3.slice
      obtain ⟨b0, off0, ha0, hbl0, hc0⟩ : ∃ b off, a0 = some ⟨b, off, none⟩ ∧ b < w.heap.size ∧ ∀ i, i < len0 → w.cell? ⟨b, off + i, none⟩ = some (.int .i64 (L0 i)) := by
        rcases HL0.out with h | h
        · omega
        · exact h
      subst ha0
      have hck := hc0 k hlt1
      have HCK : Hid (∀ W, Below w1.heap.size w1 W → W.cell? ⟨b0, off0 + k, none⟩ = some (.int .i64 (L0 k))) := fun W hW => ((HB1.out.trans (hW.mono HB1.out.size)).cell (p := ⟨b0, off0 + k, none⟩) hbl0).trans hck
      obtain ⟨b3, hb3, hb33⟩ : ∃ b3 : Nat, bits BinOp.and .i64 (L0 k) 3 = b3 ∧ b3 ≤ 3 := ⟨(L0 k % 4).toNat, by rw [and3]; omega, by omega⟩
      generalize L0 k = x0 at *
      clear h2 k2 hrow hrow2 hrow3 hp3 hc0 hck
      go_wp2_with (at_builtin; refine wpList_append_run rfl _ _ _ rfl _ _ rfl rfl hrun ?_)
      clear hrun
      go_loopw [7, 9] (fun nx i wr => ∃ (m : Nat) (s' : HS Int), m ≤ b3 ∧ i = .int .i64 m ∧ nx = .int .i64 ((n + m : Nat) : Int) ∧ s'.last = k + 1 ∧ s'.m = s.m ++ [s.last + 1] ∧ OrdAt w1 wr (.slice ta (s.m ++ [s.last + 1]).length tc) s' 0 ((n + m : Nat) : Int)) (fun _ i _ => b3 - (intOf i).toNat)
      case atStart => exact ⟨0, enterF s, Nat.zero_le _, rfl, rfl, by have := HLS.out; show s.last + 1 = k + 1; omega, rfl, HO3.out⟩
      case round =>
        obtain ⟨m, s', hm, rfl, rfl, hl', hm', ho'⟩ := hrel
        have HO' : Hid (OrdAt w1 wr (.slice ta (s.m ++ [s.last + 1]).length tc) s' 0 ((n + m : Nat) : Int)) := ho'
        have HL' : Hid (s'.last = k + 1) := hl'
        have HM' : Hid (s'.m = s.m ++ [s.last + 1]) := hm'
        clear ho' hl' hm'
        have ck := HCK.out wr HO'.out.play.bel
        by_cases hmt : m < b3
        · have hne : s'.m ≠ [] := by rw [HM'.out]; simp
          have hD := x_drop1 HO'.out.play hne ((n + m : Nat) : Int) (by have := HO'.out.ord.cnt; omega) HO'.out.hlt
          go_wp2_with fail
          refine hD.mono ?_
          rintro e w5 ⟨rfl, h5, k5⟩
          clear hD
          have HO5 : Hid (OrdAt w1 w5 (.slice ta (s.m ++ [s.last + 1]).length tc) (dropF s' [((n + m : Nat) : Int)]) 0 (((n + m : Nat) : Int) + 1)) :=
            ⟨h5, k5.row HO'.out.row (fun g hg => .inr hg), HO'.out.ord.drop hne⟩
          clear h5 k5 hne
          go_wp2
          go_roundw
          case rel => exact ⟨m + 1, dropF s' [((n + m : Nat) : Int)], by omega, by go_num, by go_num, HL'.out, HM'.out, by have := HO5.out; rw [show ((n + (m + 1) : Nat) : Int) = ((n + m : Nat) : Int) + 1 by omega]; exact this⟩
          case measure => simp [intOf]; omega
        · obtain rfl : m = b3 := by omega
          go_wp2
          go_roundw
          case rel => exact ⟨k + 1, n + m, s', by omega, by omega, by omega, by go_num, by go_num, HL'.out, by have := HO'.out; rw [List.length_append, List.length_singleton] at this; exact this⟩
          case measure => simp [intOf]; omega
    · have hor : ¬ k < len0 ∨ (k < len0 ∧ ¬ k < 12) := by omega
      rcases hor with g1 | ⟨g1, g2⟩
      all_goals
        clear hlt
        obtain ⟨ta, tc, rfl⟩ := HO.out.row.slice
        go_wp2_with fail
        go_loopw [6, 10, 11] (fun tv av iv wr => ∃ (i a : Nat) (s : HS Int), i + s.m.length ≤ 1000 ∧ iv = .int .i64 i ∧ av = .int .i64 a ∧ OrdAt w1 wr tv s a n) (fun tv _ _ _ => slen tv)
        case atStart => exact ⟨0, 0, s, by have := HO.out.mlen; omega, rfl, rfl, HO.out⟩
        case round =>
          obtain ⟨i, a, s, hil, rfl, rfl, ho2⟩ := hrel
          obtain ⟨ta, tc, rfl⟩ := ho2.row.slice
          have HO2 : Hid (OrdAt w1 wr (.slice ta s.m.length tc) s a n) := ho2
          clear ho2
          by_cases hm0 : s.m.length = 0
          · have hme : s.m = [] := List.eq_nil_of_length_eq_zero hm0
            have hle : s.l = [] := HO2.out.ord.emp hme
            have han : (a : Int) = n := by have := HO2.out.ord.cnt; rw [hle] at this; simpa using this
            have hHd := x_held HO2.out.play
            rw [hle] at hHd
            have hab : ((a : Int) == (n : Int)) = true := by rw [beq_iff_eq]; exact han
            clear hme hle
            go_wp2_with fail
            refine hHd.mono ?_
            rintro e w7 ⟨v7, rfl, r7, hb7⟩
            clear hHd
            obtain ⟨a7, c7, hv7⟩ := r7.slice
            have hv7' : v7 = .slice a7 0 c7 := hv7
            subst hv7'
            have HB7 : Hid (Below w.heap.size w w7) := (HB1.out.trans (HO2.out.play.bel.mono HB1.out.size)).trans (hb7.mono (Nat.le_trans HB1.out.size HO2.out.play.bel.size))
            clear hv7 hb7 r7
            go_wp2
            go_ret
            exact ⟨rfl, HB7.out⟩
          · have hm1 : 0 < s.m.length := by omega
            have hmz : (((s.m.length : Nat) : Int) == 0) = false := by rw [beq_eq_false_iff_ne]; omega
            by_cases hil1 : i < len1
            · obtain ⟨b1, off1, ha1, hbl1, hc1⟩ : ∃ b off, a1 = some ⟨b, off, none⟩ ∧ b < w.heap.size ∧ ∀ i, i < len1 → w.cell? ⟨b, off + i, none⟩ = some (.int .i64 (L1 i)) := by
                rcases HL1.out with h | h
                · omega
                · exact h
              subst ha1
              have ck := ((HB1.out.trans (HO2.out.play.bel.mono HB1.out.size)).cell (p := ⟨b1, off1 + i, none⟩) hbl1).trans (hc1 i hil1)
              clear hc1
              have hxw := HW1.out i hil1
              generalize L1 i = x1 at *
              obtain ⟨kk, hkk, hkl⟩ := idx_ok x1 s.m.length hm1 (by omega)
              rcases HO2.out.row.at with ⟨he, h0⟩ | ⟨g, off, tc', he, hc1, hc2, hgl, hcc⟩
              · rw [h0] at hm1; cases hm1
              cases he
              have ct := hcc kk hkl
              skip
              have hts := HO2.out.play.ok.inn _ (List.getElem_mem hkl)
              have hlB := HO2.out.play.ok.lastB
              have hsm := strike_at s.m HO2.out.play.ok.asc kk hkl
              have HOL : Hid (OrdI (leaveF s s.m[kk]) (a + (leaveL s s.m[kk]).length) n ∧ ∀ j (hj : j < (leaveL s s.m[kk]).length), (leaveL s s.m[kk])[j] = a + j) := HO2.out.ord.leave s.m[kk]
              have hX := x_leave HO2.out.play s.m[kk] (by omega)
              have HSM : Hid (strike s.m s.m[kk] = s.m.take kk ++ s.m.drop (kk + 1)) := hsm
              obtain ⟨tk, htk⟩ : ∃ tk, s.m[kk] = tk := ⟨_, rfl⟩
              rw [htk] at ct HOL hX HSM
              clear hcc hts hlB hsm htk
              go_wp2_with fail
              refine hX.mono ?_
              rintro e w3 ⟨⟨v3, rfl, r3⟩, h3, k3⟩
              clear hX
              have hrow3 : TRow w3 w1.heap.size (.slice (some ⟨g, off, none⟩) s.m.length tc) s.m := k3.row HO2.out.row (fun q hq => .inr hq)
              have hcap : s.m.length ≤ tc := hc1
              have ha36 : a ≤ 36 := by have := HO2.out.ord.cnt; omega
              obtain ⟨v4, W4, v5, W5, hrun1, hrun2, r5, hb5⟩ := cut_row w3.drew g off s.m.length tc kk s.m (hrow3.at) rfl hkl (by omega)
              have hb5' : Below w3.heap.size w3 W5 := ⟨hb5.os, hb5.tape, hb5.output, hb5.size, hb5.block⟩
              have hsz3 : wr.heap.size ≤ w3.heap.size := k3.1
              have hsz1 := HO2.out.play.bel.size
              have HO5 : Hid (OrdAt w1 W5 v5 (leaveF s tk) (a + (leaveL s tk).length) n) :=
                ⟨(h3.below hb5').mono (fun q hq => hq.imp (fun h => .inl (.inl h)) (fun h => by have := TRow.ge r5 q h; show w3.heap.size ≤ q; exact this)), by show TRow _ _ _ (strike s.m tk); rw [HSM.out]; exact TRow.base r5 (by show w1.heap.size ≤ w3.heap.size; omega), HOL.out.1⟩
              have HR3 : Hid (TRow W5 wr.heap.size v3 (leaveL s tk)) := r3.keep (fun q hq => hb5'.block q (r3.lt q hq))
              have HNM : Hid (∀ j (hj : j < (leaveL s tk).length), (leaveL s tk)[j] = a + j) := HOL.out.2
              have HLL : Hid ((leaveL s tk).length ≤ 5000) := by
                have := HO2.out.play.ok.len
                have h2 := leaveL_length s tk
                have h3 := freeN_le s.l (lo (strike s.m tk) s.last)
                show _ ≤ _
                omega
              have HL5 : Hid (slen v5 + 1 = s.m.length) := by
                show _ = _
                obtain ⟨x5, y5, e5⟩ := TRow.slice r5
                rw [e5]
                show (s.m.take kk ++ s.m.drop (kk + 1)).length + 1 = s.m.length
                rw [List.length_append, List.length_take, List.length_drop]
                omega
              have HM5 : Hid ((leaveF s tk).m.length + 1 = s.m.length) := by
                show (strike s.m tk).length + 1 = _
                rw [HSM.out, List.length_append, List.length_take, List.length_drop]
                omega
              obtain ⟨a3, c3, rfl⟩ := r3.slice
              obtain ⟨a5, n5, c5, rfl⟩ : ∃ a n c, v5 = .slice a n c := by
                obtain ⟨x5, y5, e5⟩ := TRow.slice r5
                exact ⟨_, _, _, e5⟩
              obtain ⟨F, hF⟩ : ∃ F, leaveL s tk = F := ⟨_, rfl⟩
              rw [hF] at HO5 HR3 HNM HLL
              rw [hF]
              have HRN1 : Hid (_ = _) := hrun1
              have HRN2 : Hid (_ = _) := hrun2
              clear HOL HSM hF r3 h3 k3 hrow3 r5 hb5 hb5' hrun1 hrun2 ct
              by_cases hck : tc = kk + 1
              · rw [if_pos hck] at HRN2
                have hwk : IntKind.i64.wrap (((kk : Nat) : Int) + 1) = ((kk : Nat) : Int) + 1 := IntWalk.i64_in _ (by omega)
                have hto : (((kk : Nat) : Int) + 1).toNat = kk + 1 := by omega
                have hbA : ((kk : Nat) : Int) ≤ ((kk : Nat) : Int) + 1 := by omega
                have hbB : (0 : Int) ≤ ((kk : Nat) : Int) + 1 ∧ ((kk : Nat) : Int) + 1 ≤ (s.m.length : Int) := by omega
                have hbC : ((kk : Nat) : Int) ≤ (tc : Int) := by omega
                have hbD : (kk : Nat) ≤ tc := by omega
                have hbE : (1 : Int) ≤ (s.m.length : Int) := by omega
                have hbF : IntKind.i64.wrap 1 = 1 := by decide
                go_wp2_with fail
                refine wp_region_held_drew (S := fun _ => True) (by kernel_rfl) (by exact True.intro) (fun hHeld => ?_)
                change wpAnyH _ _ _ _ _ 11 (Array.replicate 11 false) _ _
                refine wpAnyH_take (i := 1) (oi := _) (v := _) (by simp only [List.getElem?_toArray, List.getElem?_cons_succ, List.getElem?_cons_zero]; rfl) (by kernel_rfl) (by kernel_rfl) (by kernel_rfl) (by exact fun _ _ _ h => h) (Or.inl ⟨by rfl, by intro w' hSw; (try dsimp only at hSw); first | (go_simp; done) | (go_simp; with_reducible rfl)⟩) hHeld ?_
                simp only [Act.put, List.setIfInBounds_toArray, List.set_cons_zero, List.set_cons_succ]
                refine wpAnyH_take (i := 2) (oi := _) (v := _) (by simp only [List.getElem?_toArray, List.getElem?_cons_succ, List.getElem?_cons_zero]; rfl) (by kernel_rfl) (by kernel_rfl) (by kernel_rfl) (by exact fun _ _ _ h => h) (Or.inl ⟨by rfl, by intro w' hSw; (try dsimp only at hSw); first | (go_simp; done) | (go_simp; with_reducible rfl)⟩) hHeld ?_
                simp only [Act.put, List.setIfInBounds_toArray, List.set_cons_zero, List.set_cons_succ]
                refine wpAnyH_take (i := 3) (oi := _) (v := _) (by simp only [List.getElem?_toArray, List.getElem?_cons_succ, List.getElem?_cons_zero]; rfl) (by kernel_rfl) (by kernel_rfl) (by kernel_rfl) (by exact fun _ _ _ h => h) (Or.inl ⟨by rfl, by intro w' hSw; (try dsimp only at hSw); first | (go_simp; done) | (go_simp; with_reducible rfl)⟩) hHeld ?_
                simp only [Act.put, List.setIfInBounds_toArray, List.set_cons_zero, List.set_cons_succ]
                refine wpAnyH_take (i := 5) (oi := _) (v := _) (by simp only [List.getElem?_toArray, List.getElem?_cons_succ, List.getElem?_cons_zero]; rfl) (by kernel_rfl) (by kernel_rfl) (by kernel_rfl) (by exact fun _ _ _ h => h) (Or.inl ⟨by rfl, by intro w' hSw; (try dsimp only at hSw); first | (go_simp; done) | (go_simp; with_reducible rfl)⟩) hHeld ?_
                simp only [Act.put, List.setIfInBounds_toArray, List.set_cons_zero, List.set_cons_succ]
                refine wpAnyH_take (i := 6) (oi := _) (v := _) (by simp only [List.getElem?_toArray, List.getElem?_cons_succ, List.getElem?_cons_zero]; rfl) (by kernel_rfl) (by kernel_rfl) (by kernel_rfl) (by exact fun _ _ _ h => h) (Or.inl ⟨by rfl, by intro w' hSw; (try dsimp only at hSw); first | (go_simp; done) | (go_simp; with_reducible rfl)⟩) hHeld ?_
                simp only [Act.put, List.setIfInBounds_toArray, List.set_cons_zero, List.set_cons_succ]
                refine wpAnyH_take (i := 7) (oi := _) (v := _) (by simp only [List.getElem?_toArray, List.getElem?_cons_succ, List.getElem?_cons_zero]; rfl) (by kernel_rfl) (by kernel_rfl) (by kernel_rfl) (by exact fun _ _ _ h => h) (Or.inl ⟨by rfl, by intro w' hSw; (try dsimp only at hSw); first | (go_simp; done) | (go_simp; with_reducible rfl)⟩) hHeld ?_
                simp only [Act.put, List.setIfInBounds_toArray, List.set_cons_zero, List.set_cons_succ]
                refine wpAnyH_take (i := 8) (oi := _) (v := _) (by simp only [List.getElem?_toArray, List.getElem?_cons_succ, List.getElem?_cons_zero]; rfl) (by kernel_rfl) (by kernel_rfl) (by kernel_rfl) (by exact fun _ _ _ h => h) (Or.inl ⟨by rfl, by intro w' hSw; (try dsimp only at hSw); first | (go_simp; done) | (go_simp; with_reducible rfl)⟩) hHeld ?_
                simp only [Act.put, List.setIfInBounds_toArray, List.set_cons_zero, List.set_cons_succ]
                refine wpAnyH_ready (rs := [0]) (by kernel_rfl) (by simp) ?_
                refine AllReadyH.cons rfl (fun K hK => ?_) AllReadyH.nil
                go_simp
                refine hK.out _ _ True.intro (fun hHeld => ?_)
                clear hK K
                refine wpAnyH_ready (rs := [4]) (by kernel_rfl) (by simp) ?_
                refine AllReadyH.cons (o := _) (by simp only [List.getElem?_toArray, List.getElem?_cons_succ, List.getElem?_cons_zero]; rfl) (fun K hK => ?_) AllReadyH.nil
                refine wpH_append (by rfl) rfl rfl rfl HRN1.out ?_
                refine hK.out _ _ (True.intro) (fun hHeld => ?_)
                clear hK K
                simp only [Act.put, List.setIfInBounds_toArray, List.set_cons_zero, List.set_cons_succ]
                refine wpAnyH_ready (rs := [9]) (by kernel_rfl) (by simp) ?_
                refine AllReadyH.cons (o := _) (by simp only [List.getElem?_toArray, List.getElem?_cons_succ, List.getElem?_cons_zero]; rfl) (fun K hK => ?_) AllReadyH.nil
                refine wpH_append (by rfl) rfl rfl rfl HRN2.out ?_
                refine hK.out _ _ (True.intro) (fun hHeld => ?_)
                clear hK K
                simp only [Act.put, List.setIfInBounds_toArray, List.set_cons_zero, List.set_cons_succ]
                refine wpAnyH_take (i := 10) (oi := _) (v := _) (by simp only [List.getElem?_toArray, List.getElem?_cons_succ, List.getElem?_cons_zero]; rfl) (by kernel_rfl) (by kernel_rfl) (by kernel_rfl) (by exact fun _ _ _ h => h) (Or.inl ⟨by rfl, by intro w' hSw; (try dsimp only at hSw); first | (go_simp; done) | (go_simp; with_reducible rfl)⟩) hHeld ?_
                simp only [Act.put, List.setIfInBounds_toArray, List.set_cons_zero, List.set_cons_succ]
                refine wpAnyH_done (by kernel_rfl) ?_ _
                clear hHeld HRN1 HRN2
                clear hwk hto hbA hbB hbC hbD hbE hbF
                go_wp2_with fail
                go_loopw [10, 14] (fun av jv wq => ∃ j : Nat, j ≤ F.length ∧ jv = .int .i64 j ∧ av = .int .i64 ((a + j : Nat) : Int) ∧ wq = W5) (fun _ jv _ => F.length - (intOf jv).toNat)
                case atStart => exact ⟨0, Nat.zero_le _, rfl, rfl, rfl⟩
                case round =>
                  obtain ⟨j, hj, rfl, rfl, hwq⟩ := hrel
                  subst hwq
                  by_cases hjl : j < F.length
                  · rcases HR3.out.at with ⟨_, h0⟩ | ⟨g3, o3, p3, he3, _, hp3, _, hc3⟩
                    · rw [h0] at hjl; cases hjl
                    cases he3
                    have c3' := hc3 j hjl
                    rw [HNM.out j hjl] at c3'
                    have hne : (((a : Int) + (j : Int)) != ((a + j : Nat) : Int)) = false := by simp
                    clear hc3
                    have hll := HLL.out
                    go_wp2
                    go_roundw
                    case rel => exact ⟨j + 1, by omega, by go_num, by first | go_num | (congr 1; unfold wrap64; omega), True.intro⟩
                    case measure => simp [intOf]; omega
                  · obtain rfl : j = F.length := by omega
                    have hll := HLL.out
                    go_wp2
                    go_roundw
                    case rel => exact ⟨i + 1, a + F.length, leaveF s tk, by have := HM5.out; omega, by go_num, rfl, by have := HO5.out; rw [show ((a + F.length : Nat) : Int) = (a : Int) + F.length by omega]; exact this⟩
                    case measure => have := HL5.out; simp only [slen] at this ⊢; omega
              · rw [if_neg hck] at HRN2
                have hwk : IntKind.i64.wrap (((kk : Nat) : Int) + 1) = ((kk : Nat) : Int) + 1 := IntWalk.i64_in _ (by omega)
                have hto : (((kk : Nat) : Int) + 1).toNat = kk + 1 := by omega
                have hbA : ((kk : Nat) : Int) ≤ ((kk : Nat) : Int) + 1 := by omega
                have hbB : (0 : Int) ≤ ((kk : Nat) : Int) + 1 ∧ ((kk : Nat) : Int) + 1 ≤ (s.m.length : Int) := by omega
                have hbC : ((kk : Nat) : Int) ≤ (tc : Int) := by omega
                have hbD : (kk : Nat) ≤ tc := by omega
                have hbE : (1 : Int) ≤ (s.m.length : Int) := by omega
                have hbF : IntKind.i64.wrap 1 = 1 := by decide
                go_wp2_with fail
                refine wp_region_held_drew (S := fun _ => True) (by kernel_rfl) (by exact True.intro) (fun hHeld => ?_)
                change wpAnyH _ _ _ _ _ 11 (Array.replicate 11 false) _ _
                refine wpAnyH_take (i := 1) (oi := _) (v := _) (by simp only [List.getElem?_toArray, List.getElem?_cons_succ, List.getElem?_cons_zero]; rfl) (by kernel_rfl) (by kernel_rfl) (by kernel_rfl) (by exact fun _ _ _ h => h) (Or.inl ⟨by rfl, by intro w' hSw; (try dsimp only at hSw); first | (go_simp; done) | (go_simp; with_reducible rfl)⟩) hHeld ?_
                simp only [Act.put, List.setIfInBounds_toArray, List.set_cons_zero, List.set_cons_succ]
                refine wpAnyH_take (i := 2) (oi := _) (v := _) (by simp only [List.getElem?_toArray, List.getElem?_cons_succ, List.getElem?_cons_zero]; rfl) (by kernel_rfl) (by kernel_rfl) (by kernel_rfl) (by exact fun _ _ _ h => h) (Or.inl ⟨by rfl, by intro w' hSw; (try dsimp only at hSw); first | (go_simp; done) | (go_simp; with_reducible rfl)⟩) hHeld ?_
                simp only [Act.put, List.setIfInBounds_toArray, List.set_cons_zero, List.set_cons_succ]
                refine wpAnyH_take (i := 3) (oi := _) (v := _) (by simp only [List.getElem?_toArray, List.getElem?_cons_succ, List.getElem?_cons_zero]; rfl) (by kernel_rfl) (by kernel_rfl) (by kernel_rfl) (by exact fun _ _ _ h => h) (Or.inl ⟨by rfl, by intro w' hSw; (try dsimp only at hSw); first | (go_simp; done) | (go_simp; with_reducible rfl)⟩) hHeld ?_
                simp only [Act.put, List.setIfInBounds_toArray, List.set_cons_zero, List.set_cons_succ]
                refine wpAnyH_take (i := 5) (oi := _) (v := _) (by simp only [List.getElem?_toArray, List.getElem?_cons_succ, List.getElem?_cons_zero]; rfl) (by kernel_rfl) (by kernel_rfl) (by kernel_rfl) (by exact fun _ _ _ h => h) (Or.inl ⟨by rfl, by intro w' hSw; (try dsimp only at hSw); first | (go_simp; done) | (go_simp; with_reducible rfl)⟩) hHeld ?_
                simp only [Act.put, List.setIfInBounds_toArray, List.set_cons_zero, List.set_cons_succ]
                refine wpAnyH_take (i := 6) (oi := _) (v := _) (by simp only [List.getElem?_toArray, List.getElem?_cons_succ, List.getElem?_cons_zero]; rfl) (by kernel_rfl) (by kernel_rfl) (by kernel_rfl) (by exact fun _ _ _ h => h) (Or.inl ⟨by rfl, by intro w' hSw; (try dsimp only at hSw); first | (go_simp; done) | (go_simp; with_reducible rfl)⟩) hHeld ?_
                simp only [Act.put, List.setIfInBounds_toArray, List.set_cons_zero, List.set_cons_succ]
                refine wpAnyH_take (i := 7) (oi := _) (v := _) (by simp only [List.getElem?_toArray, List.getElem?_cons_succ, List.getElem?_cons_zero]; rfl) (by kernel_rfl) (by kernel_rfl) (by kernel_rfl) (by exact fun _ _ _ h => h) (Or.inl ⟨by rfl, by intro w' hSw; (try dsimp only at hSw); first | (go_simp; done) | (go_simp; with_reducible rfl)⟩) hHeld ?_
                simp only [Act.put, List.setIfInBounds_toArray, List.set_cons_zero, List.set_cons_succ]
                refine wpAnyH_take (i := 8) (oi := _) (v := _) (by simp only [List.getElem?_toArray, List.getElem?_cons_succ, List.getElem?_cons_zero]; rfl) (by kernel_rfl) (by kernel_rfl) (by kernel_rfl) (by exact fun _ _ _ h => h) (Or.inl ⟨by rfl, by intro w' hSw; (try dsimp only at hSw); first | (go_simp; done) | (go_simp; with_reducible rfl)⟩) hHeld ?_
                simp only [Act.put, List.setIfInBounds_toArray, List.set_cons_zero, List.set_cons_succ]
                refine wpAnyH_ready (rs := [0]) (by kernel_rfl) (by simp) ?_
                refine AllReadyH.cons rfl (fun K hK => ?_) AllReadyH.nil
                go_simp
                refine hK.out _ _ True.intro (fun hHeld => ?_)
                clear hK K
                refine wpAnyH_ready (rs := [4]) (by kernel_rfl) (by simp) ?_
                refine AllReadyH.cons (o := _) (by simp only [List.getElem?_toArray, List.getElem?_cons_succ, List.getElem?_cons_zero]; rfl) (fun K hK => ?_) AllReadyH.nil
                refine wpH_append (by rfl) rfl rfl rfl HRN1.out ?_
                refine hK.out _ _ (True.intro) (fun hHeld => ?_)
                clear hK K
                simp only [Act.put, List.setIfInBounds_toArray, List.set_cons_zero, List.set_cons_succ]
                refine wpAnyH_ready (rs := [9]) (by kernel_rfl) (by simp) ?_
                refine AllReadyH.cons (o := _) (by simp only [List.getElem?_toArray, List.getElem?_cons_succ, List.getElem?_cons_zero]; rfl) (fun K hK => ?_) AllReadyH.nil
                refine wpH_append (by rfl) rfl rfl rfl HRN2.out ?_
                refine hK.out _ _ (True.intro) (fun hHeld => ?_)
                clear hK K
                simp only [Act.put, List.setIfInBounds_toArray, List.set_cons_zero, List.set_cons_succ]
                refine wpAnyH_take (i := 10) (oi := _) (v := _) (by simp only [List.getElem?_toArray, List.getElem?_cons_succ, List.getElem?_cons_zero]; rfl) (by kernel_rfl) (by kernel_rfl) (by kernel_rfl) (by exact fun _ _ _ h => h) (Or.inl ⟨by rfl, by intro w' hSw; (try dsimp only at hSw); first | (go_simp; done) | (go_simp; with_reducible rfl)⟩) hHeld ?_
                simp only [Act.put, List.setIfInBounds_toArray, List.set_cons_zero, List.set_cons_succ]
                refine wpAnyH_done (by kernel_rfl) ?_ _
                clear hHeld HRN1 HRN2
                clear hwk hto hbA hbB hbC hbD hbE hbF
                go_wp2_with fail
                go_loopw [10, 14] (fun av jv wq => ∃ j : Nat, j ≤ F.length ∧ jv = .int .i64 j ∧ av = .int .i64 ((a + j : Nat) : Int) ∧ wq = W5) (fun _ jv _ => F.length - (intOf jv).toNat)
                case atStart => exact ⟨0, Nat.zero_le _, rfl, rfl, rfl⟩
                case round =>
                  obtain ⟨j, hj, rfl, rfl, hwq⟩ := hrel
                  subst hwq
                  by_cases hjl : j < F.length
                  · rcases HR3.out.at with ⟨_, h0⟩ | ⟨g3, o3, p3, he3, _, hp3, _, hc3⟩
                    · rw [h0] at hjl; cases hjl
                    cases he3
                    have c3' := hc3 j hjl
                    rw [HNM.out j hjl] at c3'
                    have hne : (((a : Int) + (j : Int)) != ((a + j : Nat) : Int)) = false := by simp
                    clear hc3
                    have hll := HLL.out
                    go_wp2
                    go_roundw
                    case rel => exact ⟨j + 1, by omega, by go_num, by first | go_num | (congr 1; unfold wrap64; omega), True.intro⟩
                    case measure => simp [intOf]; omega
                  · obtain rfl : j = F.length := by omega
                    have hll := HLL.out
                    go_wp2
                    go_roundw
                    case rel => exact ⟨i + 1, a + F.length, leaveF s tk, by have := HM5.out; omega, by go_num, rfl, by have := HO5.out; rw [show ((a + F.length : Nat) : Int) = (a : Int) + F.length by omega]; exact this⟩
                    case measure => have := HL5.out; simp only [slen] at this ⊢; omega
            · have hkl : 0 < s.m.length := hm1
              rcases HO2.out.row.at with ⟨he, h0⟩ | ⟨g, off, tc', he, hc1, hc2, hgl, hcc⟩
              · rw [h0] at hm1; cases hm1
              cases he
              have ct := hcc 0 hkl
              rw [Nat.add_zero] at ct
              have hts := HO2.out.play.ok.inn _ (List.getElem_mem hkl)
              have hlB := HO2.out.play.ok.lastB
              have hsm := strike_at s.m HO2.out.play.ok.asc 0 hkl
              have HOL : Hid (OrdI (leaveF s s.m[0]) (a + (leaveL s s.m[0]).length) n ∧ ∀ j (hj : j < (leaveL s s.m[0]).length), (leaveL s s.m[0])[j] = a + j) := HO2.out.ord.leave s.m[0]
              have hX := x_leave HO2.out.play s.m[0] (by omega)
              have HSM : Hid (strike s.m s.m[0] = s.m.take 0 ++ s.m.drop (0 + 1)) := hsm
              obtain ⟨tk, htk⟩ : ∃ tk, s.m[0] = tk := ⟨_, rfl⟩
              rw [htk] at ct HOL hX HSM
              clear hcc hts hlB hsm htk
              go_wp2_with fail
              refine hX.mono ?_
              rintro e w3 ⟨⟨v3, rfl, r3⟩, h3, k3⟩
              clear hX
              have hrow3 : TRow w3 w1.heap.size (.slice (some ⟨g, off, none⟩) s.m.length tc) s.m := k3.row HO2.out.row (fun q hq => .inr hq)
              have hcap : s.m.length ≤ tc := hc1
              have ha36 : a ≤ 36 := by have := HO2.out.ord.cnt; omega
              obtain ⟨v4, W4, v5, W5, hrun1, hrun2, r5, hb5⟩ := cut_row w3.drew g off s.m.length tc 0 s.m (hrow3.at) rfl hkl (by omega)
              have hb5' : Below w3.heap.size w3 W5 := ⟨hb5.os, hb5.tape, hb5.output, hb5.size, hb5.block⟩
              have hsz3 : wr.heap.size ≤ w3.heap.size := k3.1
              have hsz1 := HO2.out.play.bel.size
              have HO5 : Hid (OrdAt w1 W5 v5 (leaveF s tk) (a + (leaveL s tk).length) n) :=
                ⟨(h3.below hb5').mono (fun q hq => hq.imp (fun h => .inl (.inl h)) (fun h => by have := TRow.ge r5 q h; show w3.heap.size ≤ q; exact this)), by show TRow _ _ _ (strike s.m tk); rw [HSM.out]; exact TRow.base r5 (by show w1.heap.size ≤ w3.heap.size; omega), HOL.out.1⟩
              have HR3 : Hid (TRow W5 wr.heap.size v3 (leaveL s tk)) := r3.keep (fun q hq => hb5'.block q (r3.lt q hq))
              have HNM : Hid (∀ j (hj : j < (leaveL s tk).length), (leaveL s tk)[j] = a + j) := HOL.out.2
              have HLL : Hid ((leaveL s tk).length ≤ 5000) := by
                have := HO2.out.play.ok.len
                have h2 := leaveL_length s tk
                have h3 := freeN_le s.l (lo (strike s.m tk) s.last)
                show _ ≤ _
                omega
              have HL5 : Hid (slen v5 + 1 = s.m.length) := by
                show _ = _
                obtain ⟨x5, y5, e5⟩ := TRow.slice r5
                rw [e5]
                show (s.m.take 0 ++ s.m.drop (0 + 1)).length + 1 = s.m.length
                rw [List.length_append, List.length_take, List.length_drop]
                omega
              have HM5 : Hid ((leaveF s tk).m.length + 1 = s.m.length) := by
                show (strike s.m tk).length + 1 = _
                rw [HSM.out, List.length_append, List.length_take, List.length_drop]
                omega
              obtain ⟨a3, c3, rfl⟩ := r3.slice
              obtain ⟨a5, n5, c5, rfl⟩ : ∃ a n c, v5 = .slice a n c := by
                obtain ⟨x5, y5, e5⟩ := TRow.slice r5
                exact ⟨_, _, _, e5⟩
              obtain ⟨F, hF⟩ : ∃ F, leaveL s tk = F := ⟨_, rfl⟩
              rw [hF] at HO5 HR3 HNM HLL
              rw [hF]
              have HRN1 : Hid (_ = _) := hrun1
              have HRN2 : Hid (_ = _) := hrun2
              clear HOL HSM hF r3 h3 k3 hrow3 r5 hb5 hb5' hrun1 hrun2 ct
              by_cases hck : tc = 0 + 1
              · rw [if_pos hck] at HRN2
                have hwk : IntKind.i64.wrap (((0 : Nat) : Int) + 1) = ((0 : Nat) : Int) + 1 := IntWalk.i64_in _ (by omega)
                have hto : (((0 : Nat) : Int) + 1).toNat = 0 + 1 := by omega
                have hbA : ((0 : Nat) : Int) ≤ ((0 : Nat) : Int) + 1 := by omega
                have hbB : (0 : Int) ≤ ((0 : Nat) : Int) + 1 ∧ ((0 : Nat) : Int) + 1 ≤ (s.m.length : Int) := by omega
                have hbC : ((0 : Nat) : Int) ≤ (tc : Int) := by omega
                have hbD : (0 : Nat) ≤ tc := by omega
                have hbE : (1 : Int) ≤ (s.m.length : Int) := by omega
                have hbF : IntKind.i64.wrap 1 = 1 := by decide
                go_wp2_with fail
                refine wp_region_held_drew (S := fun _ => True) (by kernel_rfl) (by exact True.intro) (fun hHeld => ?_)
                change wpAnyH _ _ _ _ _ 11 (Array.replicate 11 false) _ _
                refine wpAnyH_take (i := 1) (oi := _) (v := _) (by simp only [List.getElem?_toArray, List.getElem?_cons_succ, List.getElem?_cons_zero]; rfl) (by kernel_rfl) (by kernel_rfl) (by kernel_rfl) (by exact fun _ _ _ h => h) (Or.inl ⟨by rfl, by intro w' hSw; (try dsimp only at hSw); first | (go_simp; done) | (go_simp; with_reducible rfl)⟩) hHeld ?_
                simp only [Act.put, List.setIfInBounds_toArray, List.set_cons_zero, List.set_cons_succ]
                refine wpAnyH_take (i := 2) (oi := _) (v := _) (by simp only [List.getElem?_toArray, List.getElem?_cons_succ, List.getElem?_cons_zero]; rfl) (by kernel_rfl) (by kernel_rfl) (by kernel_rfl) (by exact fun _ _ _ h => h) (Or.inl ⟨by rfl, by intro w' hSw; (try dsimp only at hSw); first | (go_simp; done) | (go_simp; with_reducible rfl)⟩) hHeld ?_
                simp only [Act.put, List.setIfInBounds_toArray, List.set_cons_zero, List.set_cons_succ]
                refine wpAnyH_take (i := 3) (oi := _) (v := _) (by simp only [List.getElem?_toArray, List.getElem?_cons_succ, List.getElem?_cons_zero]; rfl) (by kernel_rfl) (by kernel_rfl) (by kernel_rfl) (by exact fun _ _ _ h => h) (Or.inl ⟨by rfl, by intro w' hSw; (try dsimp only at hSw); first | (go_simp; done) | (go_simp; with_reducible rfl)⟩) hHeld ?_
                simp only [Act.put, List.setIfInBounds_toArray, List.set_cons_zero, List.set_cons_succ]
                refine wpAnyH_take (i := 5) (oi := _) (v := _) (by simp only [List.getElem?_toArray, List.getElem?_cons_succ, List.getElem?_cons_zero]; rfl) (by kernel_rfl) (by kernel_rfl) (by kernel_rfl) (by exact fun _ _ _ h => h) (Or.inl ⟨by rfl, by intro w' hSw; (try dsimp only at hSw); first | (go_simp; done) | (go_simp; with_reducible rfl)⟩) hHeld ?_
                simp only [Act.put, List.setIfInBounds_toArray, List.set_cons_zero, List.set_cons_succ]
                refine wpAnyH_take (i := 6) (oi := _) (v := _) (by simp only [List.getElem?_toArray, List.getElem?_cons_succ, List.getElem?_cons_zero]; rfl) (by kernel_rfl) (by kernel_rfl) (by kernel_rfl) (by exact fun _ _ _ h => h) (Or.inl ⟨by rfl, by intro w' hSw; (try dsimp only at hSw); first | (go_simp; done) | (go_simp; with_reducible rfl)⟩) hHeld ?_
                simp only [Act.put, List.setIfInBounds_toArray, List.set_cons_zero, List.set_cons_succ]
                refine wpAnyH_take (i := 7) (oi := _) (v := _) (by simp only [List.getElem?_toArray, List.getElem?_cons_succ, List.getElem?_cons_zero]; rfl) (by kernel_rfl) (by kernel_rfl) (by kernel_rfl) (by exact fun _ _ _ h => h) (Or.inl ⟨by rfl, by intro w' hSw; (try dsimp only at hSw); first | (go_simp; done) | (go_simp; with_reducible rfl)⟩) hHeld ?_
                simp only [Act.put, List.setIfInBounds_toArray, List.set_cons_zero, List.set_cons_succ]
                refine wpAnyH_take (i := 8) (oi := _) (v := _) (by simp only [List.getElem?_toArray, List.getElem?_cons_succ, List.getElem?_cons_zero]; rfl) (by kernel_rfl) (by kernel_rfl) (by kernel_rfl) (by exact fun _ _ _ h => h) (Or.inl ⟨by rfl, by intro w' hSw; (try dsimp only at hSw); first | (go_simp; done) | (go_simp; with_reducible rfl)⟩) hHeld ?_
                simp only [Act.put, List.setIfInBounds_toArray, List.set_cons_zero, List.set_cons_succ]
                refine wpAnyH_ready (rs := [0]) (by kernel_rfl) (by simp) ?_
                refine AllReadyH.cons rfl (fun K hK => ?_) AllReadyH.nil
                go_simp
                refine hK.out _ _ True.intro (fun hHeld => ?_)
                clear hK K
                refine wpAnyH_ready (rs := [4]) (by kernel_rfl) (by simp) ?_
                refine AllReadyH.cons (o := _) (by simp only [List.getElem?_toArray, List.getElem?_cons_succ, List.getElem?_cons_zero]; rfl) (fun K hK => ?_) AllReadyH.nil
                refine wpH_append (by rfl) rfl rfl rfl HRN1.out ?_
                refine hK.out _ _ (True.intro) (fun hHeld => ?_)
                clear hK K
                simp only [Act.put, List.setIfInBounds_toArray, List.set_cons_zero, List.set_cons_succ]
                refine wpAnyH_ready (rs := [9]) (by kernel_rfl) (by simp) ?_
                refine AllReadyH.cons (o := _) (by simp only [List.getElem?_toArray, List.getElem?_cons_succ, List.getElem?_cons_zero]; rfl) (fun K hK => ?_) AllReadyH.nil
                refine wpH_append (by rfl) rfl rfl rfl HRN2.out ?_
                refine hK.out _ _ (True.intro) (fun hHeld => ?_)
                clear hK K
                simp only [Act.put, List.setIfInBounds_toArray, List.set_cons_zero, List.set_cons_succ]
                refine wpAnyH_take (i := 10) (oi := _) (v := _) (by simp only [List.getElem?_toArray, List.getElem?_cons_succ, List.getElem?_cons_zero]; rfl) (by kernel_rfl) (by kernel_rfl) (by kernel_rfl) (by exact fun _ _ _ h => h) (Or.inl ⟨by rfl, by intro w' hSw; (try dsimp only at hSw); first | (go_simp; done) | (go_simp; with_reducible rfl)⟩) hHeld ?_
                simp only [Act.put, List.setIfInBounds_toArray, List.set_cons_zero, List.set_cons_succ]
                refine wpAnyH_done (by kernel_rfl) ?_ _
                clear hHeld HRN1 HRN2
                clear hwk hto hbA hbB hbC hbD hbE hbF
                go_wp2_with fail
                go_loopw [10, 14] (fun av jv wq => ∃ j : Nat, j ≤ F.length ∧ jv = .int .i64 j ∧ av = .int .i64 ((a + j : Nat) : Int) ∧ wq = W5) (fun _ jv _ => F.length - (intOf jv).toNat)
                case atStart => exact ⟨0, Nat.zero_le _, rfl, rfl, rfl⟩
                case round =>
                  obtain ⟨j, hj, rfl, rfl, hwq⟩ := hrel
                  subst hwq
                  by_cases hjl : j < F.length
                  · rcases HR3.out.at with ⟨_, h0⟩ | ⟨g3, o3, p3, he3, _, hp3, _, hc3⟩
                    · rw [h0] at hjl; cases hjl
                    cases he3
                    have c3' := hc3 j hjl
                    rw [HNM.out j hjl] at c3'
                    have hne : (((a : Int) + (j : Int)) != ((a + j : Nat) : Int)) = false := by simp
                    clear hc3
                    have hll := HLL.out
                    go_wp2
                    go_roundw
                    case rel => exact ⟨j + 1, by omega, by go_num, by first | go_num | (congr 1; unfold wrap64; omega), True.intro⟩
                    case measure => simp [intOf]; omega
                  · obtain rfl : j = F.length := by omega
                    have hll := HLL.out
                    go_wp2
                    go_roundw
                    case rel => exact ⟨i + 1, a + F.length, leaveF s tk, by have := HM5.out; omega, by go_num, rfl, by have := HO5.out; rw [show ((a + F.length : Nat) : Int) = (a : Int) + F.length by omega]; exact this⟩
                    case measure => have := HL5.out; simp only [slen] at this ⊢; omega
              · rw [if_neg hck] at HRN2
                have hwk : IntKind.i64.wrap (((0 : Nat) : Int) + 1) = ((0 : Nat) : Int) + 1 := IntWalk.i64_in _ (by omega)
                have hto : (((0 : Nat) : Int) + 1).toNat = 0 + 1 := by omega
                have hbA : ((0 : Nat) : Int) ≤ ((0 : Nat) : Int) + 1 := by omega
                have hbB : (0 : Int) ≤ ((0 : Nat) : Int) + 1 ∧ ((0 : Nat) : Int) + 1 ≤ (s.m.length : Int) := by omega
                have hbC : ((0 : Nat) : Int) ≤ (tc : Int) := by omega
                have hbD : (0 : Nat) ≤ tc := by omega
                have hbE : (1 : Int) ≤ (s.m.length : Int) := by omega
                have hbF : IntKind.i64.wrap 1 = 1 := by decide
                go_wp2_with fail
                refine wp_region_held_drew (S := fun _ => True) (by kernel_rfl) (by exact True.intro) (fun hHeld => ?_)
                change wpAnyH _ _ _ _ _ 11 (Array.replicate 11 false) _ _
                refine wpAnyH_take (i := 1) (oi := _) (v := _) (by simp only [List.getElem?_toArray, List.getElem?_cons_succ, List.getElem?_cons_zero]; rfl) (by kernel_rfl) (by kernel_rfl) (by kernel_rfl) (by exact fun _ _ _ h => h) (Or.inl ⟨by rfl, by intro w' hSw; (try dsimp only at hSw); first | (go_simp; done) | (go_simp; with_reducible rfl)⟩) hHeld ?_
                simp only [Act.put, List.setIfInBounds_toArray, List.set_cons_zero, List.set_cons_succ]
                refine wpAnyH_take (i := 2) (oi := _) (v := _) (by simp only [List.getElem?_toArray, List.getElem?_cons_succ, List.getElem?_cons_zero]; rfl) (by kernel_rfl) (by kernel_rfl) (by kernel_rfl) (by exact fun _ _ _ h => h) (Or.inl ⟨by rfl, by intro w' hSw; (try dsimp only at hSw); first | (go_simp; done) | (go_simp; with_reducible rfl)⟩) hHeld ?_
                simp only [Act.put, List.setIfInBounds_toArray, List.set_cons_zero, List.set_cons_succ]
                refine wpAnyH_take (i := 3) (oi := _) (v := _) (by simp only [List.getElem?_toArray, List.getElem?_cons_succ, List.getElem?_cons_zero]; rfl) (by kernel_rfl) (by kernel_rfl) (by kernel_rfl) (by exact fun _ _ _ h => h) (Or.inl ⟨by rfl, by intro w' hSw; (try dsimp only at hSw); first | (go_simp; done) | (go_simp; with_reducible rfl)⟩) hHeld ?_
                simp only [Act.put, List.setIfInBounds_toArray, List.set_cons_zero, List.set_cons_succ]
                refine wpAnyH_take (i := 5) (oi := _) (v := _) (by simp only [List.getElem?_toArray, List.getElem?_cons_succ, List.getElem?_cons_zero]; rfl) (by kernel_rfl) (by kernel_rfl) (by kernel_rfl) (by exact fun _ _ _ h => h) (Or.inl ⟨by rfl, by intro w' hSw; (try dsimp only at hSw); first | (go_simp; done) | (go_simp; with_reducible rfl)⟩) hHeld ?_
                simp only [Act.put, List.setIfInBounds_toArray, List.set_cons_zero, List.set_cons_succ]
                refine wpAnyH_take (i := 6) (oi := _) (v := _) (by simp only [List.getElem?_toArray, List.getElem?_cons_succ, List.getElem?_cons_zero]; rfl) (by kernel_rfl) (by kernel_rfl) (by kernel_rfl) (by exact fun _ _ _ h => h) (Or.inl ⟨by rfl, by intro w' hSw; (try dsimp only at hSw); first | (go_simp; done) | (go_simp; with_reducible rfl)⟩) hHeld ?_
                simp only [Act.put, List.setIfInBounds_toArray, List.set_cons_zero, List.set_cons_succ]
                refine wpAnyH_take (i := 7) (oi := _) (v := _) (by simp only [List.getElem?_toArray, List.getElem?_cons_succ, List.getElem?_cons_zero]; rfl) (by kernel_rfl) (by kernel_rfl) (by kernel_rfl) (by exact fun _ _ _ h => h) (Or.inl ⟨by rfl, by intro w' hSw; (try dsimp only at hSw); first | (go_simp; done) | (go_simp; with_reducible rfl)⟩) hHeld ?_
                simp only [Act.put, List.setIfInBounds_toArray, List.set_cons_zero, List.set_cons_succ]
                refine wpAnyH_take (i := 8) (oi := _) (v := _) (by simp only [List.getElem?_toArray, List.getElem?_cons_succ, List.getElem?_cons_zero]; rfl) (by kernel_rfl) (by kernel_rfl) (by kernel_rfl) (by exact fun _ _ _ h => h) (Or.inl ⟨by rfl, by intro w' hSw; (try dsimp only at hSw); first | (go_simp; done) | (go_simp; with_reducible rfl)⟩) hHeld ?_
                simp only [Act.put, List.setIfInBounds_toArray, List.set_cons_zero, List.set_cons_succ]
                refine wpAnyH_ready (rs := [0]) (by kernel_rfl) (by simp) ?_
                refine AllReadyH.cons rfl (fun K hK => ?_) AllReadyH.nil
                go_simp
                refine hK.out _ _ True.intro (fun hHeld => ?_)
                clear hK K
                refine wpAnyH_ready (rs := [4]) (by kernel_rfl) (by simp) ?_
                refine AllReadyH.cons (o := _) (by simp only [List.getElem?_toArray, List.getElem?_cons_succ, List.getElem?_cons_zero]; rfl) (fun K hK => ?_) AllReadyH.nil
                refine wpH_append (by rfl) rfl rfl rfl HRN1.out ?_
                refine hK.out _ _ (True.intro) (fun hHeld => ?_)
                clear hK K
                simp only [Act.put, List.setIfInBounds_toArray, List.set_cons_zero, List.set_cons_succ]
                refine wpAnyH_ready (rs := [9]) (by kernel_rfl) (by simp) ?_
                refine AllReadyH.cons (o := _) (by simp only [List.getElem?_toArray, List.getElem?_cons_succ, List.getElem?_cons_zero]; rfl) (fun K hK => ?_) AllReadyH.nil
                refine wpH_append (by rfl) rfl rfl rfl HRN2.out ?_
                refine hK.out _ _ (True.intro) (fun hHeld => ?_)
                clear hK K
                simp only [Act.put, List.setIfInBounds_toArray, List.set_cons_zero, List.set_cons_succ]
                refine wpAnyH_take (i := 10) (oi := _) (v := _) (by simp only [List.getElem?_toArray, List.getElem?_cons_succ, List.getElem?_cons_zero]; rfl) (by kernel_rfl) (by kernel_rfl) (by kernel_rfl) (by exact fun _ _ _ h => h) (Or.inl ⟨by rfl, by intro w' hSw; (try dsimp only at hSw); first | (go_simp; done) | (go_simp; with_reducible rfl)⟩) hHeld ?_
                simp only [Act.put, List.setIfInBounds_toArray, List.set_cons_zero, List.set_cons_succ]
                refine wpAnyH_done (by kernel_rfl) ?_ _
                clear hHeld HRN1 HRN2
                clear hwk hto hbA hbB hbC hbD hbE hbF
                go_wp2_with fail
                go_loopw [10, 14] (fun av jv wq => ∃ j : Nat, j ≤ F.length ∧ jv = .int .i64 j ∧ av = .int .i64 ((a + j : Nat) : Int) ∧ wq = W5) (fun _ jv _ => F.length - (intOf jv).toNat)
                case atStart => exact ⟨0, Nat.zero_le _, rfl, rfl, rfl⟩
                case round =>
                  obtain ⟨j, hj, rfl, rfl, hwq⟩ := hrel
                  subst hwq
                  by_cases hjl : j < F.length
                  · rcases HR3.out.at with ⟨_, h0⟩ | ⟨g3, o3, p3, he3, _, hp3, _, hc3⟩
                    · rw [h0] at hjl; cases hjl
                    cases he3
                    have c3' := hc3 j hjl
                    rw [HNM.out j hjl] at c3'
                    have hne : (((a : Int) + (j : Int)) != ((a + j : Nat) : Int)) = false := by simp
                    clear hc3
                    have hll := HLL.out
                    go_wp2
                    go_roundw
                    case rel => exact ⟨j + 1, by omega, by go_num, by first | go_num | (congr 1; unfold wrap64; omega), True.intro⟩
                    case measure => simp [intOf]; omega
                  · obtain rfl : j = F.length := by omega
                    have hll := HLL.out
                    go_wp2
                    go_roundw
                    case rel => exact ⟨i + 1, a + F.length, leaveF s tk, by have := HM5.out; omega, by go_num, rfl, by have := HO5.out; rw [show ((a + F.length : Nat) : Int) = (a : Int) + F.length by omega]; exact this⟩
                    case measure => have := HL5.out; simp only [slen] at this ⊢; omega

end Go.Proofs.Ytmapaplpoogpfaa.Hd
