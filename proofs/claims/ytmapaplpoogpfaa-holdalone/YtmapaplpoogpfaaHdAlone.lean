/-
  With nobody inside things are free at once: what the law answers. No condition.
-/
import Derived.Test.YtmapaplpoogpfaaHdSp
import Derived.Test.YtmapaplpoogpfaaHdK
import Derived.Test.YtmapaplpoogpfaaNvItems
namespace Go.Proofs.Ytmapaplpoogpfaa.Hd
open Go.ChangeShapes Go.WideShapes Go.ChangeAt Go.RowKit Go.Proofs.Fa
open Go.Proofs.Ytmapaplpoogpfaa.Hdi
open Go.Proofs.Ytmapaplpoogpfaa.Nv (Turn Grow lt_of_heap lt_of_cell cell_of_heap free_of_heap icells scells icells_one scells_one CellsAt ints_of_trod)

set_option maxRecDepth 100000
set_option maxHeartbeats 2000000

/-- k of them came and went. -/
def gone (k : Int) : HS Int := ⟨k, [], if k = 0 then 0 else k + 1, []⟩
theorem gone_enter_leave (k : Int) (hk : 0 ≤ k) : leaveF (enterF (gone k)) (k + 1) = gone (k + 1) := by
  unfold leaveF enterF gone strike lo
  simp only [List.nil_append, List.filter_cons, List.filter_nil, ne_eq, not_true_eq_false, decide_false, Bool.false_eq_true, if_false, List.headD_nil, List.drop_nil]
  rw [if_neg (by omega)]

/-- The first things of those that came in. -/
def firsts (L : Nat → Int) (n : Nat) : List Int := (List.range n).map L
theorem firsts_length (L : Nat → Int) (n : Nat) : (firsts L n).length = n := by simp [firsts]
theorem firsts_at (L : Nat → Int) (n j : Nat) (h : j < n) : (firsts L n)[j]? = some (L j) := by simp [firsts, h]

theorem holdAlone_calls {H : Type} {enc : TypeId × Value → H} {sp : Nat → Bool} {held : Bool} {d : DataW H} {p : List MemPlace} (a : Option Addr) (len cap : Nat) (en : Int) (w : World)
    (ht : DataW.Trod enc Try.prog w 0 sp held 29 (.slice a len cap) d p) (_ : (Lit.int .i64 en).wf = true) :
    Calls Try.prog 5 #[.slice a len cap, .int .i64 en] w fun e w' => e = .returned (.bool true) ∧ Below w.heap.size w w' := by
  obtain ⟨L, hL, hLw, hlm, hlc⟩ := ints_of_trod ht
  have HL : Hid (CellsAt w a len (fun i => .int .i64 (L i))) := hL
  obtain ⟨m7, hm7, hm8⟩ : ∃ m7 : Nat, bits BinOp.and .i64 en 7 = m7 ∧ m7 ≤ 7 := ⟨(en % 8).toNat, by rw [and7]; omega, by omega⟩
  clear ht hL hLw
  go_enter Try.func5, Try.ntmps5
  go_wp2_with fail
  refine (Hds.speaks_any w).mono ?_
  rintro e w1 ⟨rfl, hb1⟩
  have HB1 : Hid (Below w.heap.size w w1) := hb1
  clear hb1
  go_wp2_with fail
  go_loopw [6] (fun i wr => ∃ k : Nat, k ≤ m7 ∧ i = .int .i64 k ∧ PlayX (fun q => q < w1.heap.size) w1 wr w1.heap.size (gone k)) (fun i _ => m7 - (intOf i).toNat)
  case atStart => exact ⟨0, Nat.zero_le _, rfl, PlayX.new w1⟩
  case round =>
    obtain ⟨k, hk, rfl, hp⟩ := hrel
    have HP : Hid (PlayX (fun q => q < w1.heap.size) w1 wr w1.heap.size (gone k)) := hp
    have HH : Hid (∀ q, q < w1.heap.size → q < wr.heap.size) := fun q hq => by have := hp.bel.size; omega
    clear hp
    by_cases hlt : k < m7
    · have hE := x_enter HP.out (by show (k : Int) ≤ 999; omega) HH.out
      go_wp2_with fail
      refine hE.mono ?_
      rintro e w2 ⟨rfl, h2, _⟩
      clear hE
      have hlv := x_leave h2 (k + 1) (by omega)
      clear h2
      go_wp2_with fail
      refine hlv.mono ?_
      rintro e w3 ⟨⟨v3, rfl, r3⟩, h3, _⟩
      clear hlv
      have HP3 : Hid (PlayX (fun q => q < w1.heap.size) w1 w3 w1.heap.size (gone ((k : Int) + 1))) := by
        rw [← gone_enter_leave k (by omega)]
        exact h3.mono (fun q hq => .inl hq)
      obtain ⟨va, vc, rfl⟩ := r3.slice
      clear h3 r3
      go_wp2
      go_roundw
      case rel => exact ⟨k + 1, by omega, by go_num, by have := HP3.out; rw [show ((k + 1 : Nat) : Int) = (k : Int) + 1 by omega]; exact this⟩
      case measure => simp [intOf]; omega
    · obtain rfl : k = m7 := by omega
      obtain ⟨n, hn⟩ : ∃ n : Nat, n = min len 30 := ⟨_, rfl⟩
      have hq1 : (if (30 : Int) < (len : Int) then (30 : Int) else (len : Int)) = (n : Int) := by split <;> omega
      have hq2 : min (len : Int) 30 = (n : Int) := by omega
      have hnl : n ≤ len := by omega
      have hnc : n ≤ cap := by omega
      have hn30 : n ≤ 30 := by omega
      clear hn
      have hbw : Below w.heap.size w wr := HB1.out.trans (HP.out.bel.mono HB1.out.size)
      obtain ⟨v4, w4, hrun, r4, hb4⟩ := keep_row wr a n cap L (by omega) (by
        rcases HL.out with h | ⟨b2, off2, e, hl, hc⟩
        · exact .inl (by omega)
        · exact .inr ⟨b2, off2, e, Nat.lt_of_lt_of_le hl hbw.size, fun i hi => (hbw.cell (p := ⟨b2, off2 + i, none⟩) hl).trans (hc i (by omega))⟩)
      have hp4 := HP.out.below hb4
      obtain ⟨xs, hxs⟩ : ∃ xs, (List.range n).map L = xs := ⟨_, rfl⟩
      have hxl : xs.length = n := by rw [← hxs]; simp
      rw [hxs] at r4
      have hD := x_drop0 hp4 rfl v4 xs r4.at (by omega)
      obtain ⟨a4, c4, rfl⟩ := r4.slice
      have HBW : Hid (Below w.heap.size w wr) := hbw
      have HR4 : Hid (TRow w4 wr.heap.size (.slice a4 xs.length c4) xs) := r4
      have HP4 : Hid (PlayX (fun q => q < w1.heap.size ∨ wr.heap.size ≤ q) w1 w4 w1.heap.size (gone k)) := hp4
      clear hbw hb4 hp4 r4 hxs HL
      subst hxl
      go_wp2_with (at_builtin; refine wpList_append_run rfl _ _ _ rfl _ _ rfl rfl hrun ?_)
      refine hD.mono ?_
      rintro e w5 ⟨v5, rfl, r5, hb5⟩
      clear hD
      have hp5 := HP4.out.below hb5
      have hr4 : TRow w5 wr.heap.size (.slice a4 xs.length c4) xs := HR4.out.keep (fun g hg => hb5.block g (HR4.out.lt g hg))
      have hS := same_any v5 _ xs xs r5.at hr4.at (by omega)
      have HP5 : Hid (PlayX (fun q => q < w1.heap.size ∨ wr.heap.size ≤ q) w1 w5 w1.heap.size (gone k)) := hp5.mono (fun q hq => .inl hq)
      obtain ⟨a5, c5, rfl⟩ := r5.slice
      clear hb5 hp5 hr4 r5
      go_wp2_with fail
      refine hS.mono ?_
      rintro e w6 ⟨rfl, hb6⟩
      clear hS
      have hp6 := HP5.out.below hb6
      have hHd := x_held hp6
      clear hb6
      go_wp2_with fail
      refine hHd.mono ?_
      rintro e w7 ⟨v7, rfl, r7, hb7⟩
      clear hHd
      have hp7 := (hp6.below hb7).mono (H' := fun q => q < w1.heap.size) (fun q hq => .inl (.inl (.inl hq)))
      have hE := x_enter hp7 (by show (k : Int) ≤ 999; omega) (fun q hq => by have := hp7.bel.size; omega)
      obtain ⟨a7, c7, hv7⟩ := r7.slice
      have hv7' : v7 = .slice a7 0 c7 := hv7
      subst hv7'
      clear hv7 hp6 hp7 hb7 r7
      have hw8 : wrap64 (1 + (k : Int)) = (k : Int) + 1 := by unfold wrap64; omega
      go_wp2_with fail
      refine hE.mono ?_
      rintro e w8 ⟨rfl, h8, _⟩
      clear hE
      have HB8 : Hid (Below w.heap.size w w8) := HB1.out.trans (h8.bel.mono HB1.out.size)
      clear h8
      have hl8 : ((k : Int) + 1 == 1 + (k : Int)) = true := by rw [beq_iff_eq]; omega
      go_wp2
      go_ret
      exact ⟨congrArg (fun q => Ending.returned (Value.bool q)) hl8, HB8.out⟩

end Go.Proofs.Ytmapaplpoogpfaa.Hd
