/-
  LeReads answers true for every input: any bytes, read by any sizes: each answer, and the first error. Condition: errors.errorType holds its handle.
-/
import Derived.Test.YtmcaiaafdbeihaaDoorLeRef
import Derived.Test.YtmcaiaafdbeihaaDoorLeItems
namespace Go.Proofs.YtmcaiaafdbeihaaDoor.Le
open Go.ChangeShapes Go.WideShapes Go.ChangeAt Go.RowKit Go.Lib
open Go.Proofs.YtmcaiaafdbeihaaDoor.As (ErrT)

theorem takeF_rest (s : ByteArray) (e size : Int) : (takeF s e size).2.1.size ≤ s.size := by
  unfold takeF
  split
  · simp
  · split
    · simp
    · split
      · simp
      · simp
theorem rtakeF_rest (s : ByteArray) (e size : Int) : (rtakeF s e size).2.1.size ≤ s.size := by
  unfold rtakeF
  split
  · simp
  · split
    · simp
    · split
      · simp
      · simp
theorem failF_rest (s : ByteArray) (e n : Int) : (failF s e n).1.size ≤ s.size := by
  unfold failF; split <;> simp
theorem inNumF_rest (s : ByteArray) (e size : Int) : (inNumF s e size).2.1.size ≤ s.size := by
  unfold inNumF; split
  · exact takeF_rest s e size
  · exact failF_rest s e 1
theorem rnumF_rest (s : ByteArray) (e size : Int) : (rnumF s e size).2.1.size ≤ s.size := by
  unfold rnumF; split
  · exact Nat.le_refl _
  · exact rtakeF_rest s e size
theorem noughtsF_rest (s : ByteArray) (e size : Int) : (noughtsF s e size).1.size ≤ s.size := by
  unfold noughtsF; split
  · exact takeF_rest s e size
  · exact Nat.le_trans (failF_rest _ _ _) (takeF_rest s e size)
theorem rnoughtsF_rest (s : ByteArray) (e size : Int) : (rnoughtsF s e size).1.size ≤ s.size := by
  unfold rnoughtsF; split
  · exact rtakeF_rest s e size
  · exact rtakeF_rest s e size

theorem RefS.only {w w' : World} {b c : Nat} {s : ByteArray} {e : Int} (h : RefS w c s e) (ho : Only b w w') (hn : c ≠ b) : RefS w' c s e := by
  show w'.heap[c]? = _; rw [ho.block c hn]; exact h
theorem InS.only {w w' : World} {b c : Nat} {s : ByteArray} {e : Int} (h : InS w b s e) (ho : Only c w w') (hn : b ≠ c) : InS w' b s e := by
  show w'.heap[b]? = _; rw [ho.block b hn]; exact h

/-- What holds at each round's head. -/
def RInv (w0 : World) (b : Nat) (wr : World) : Prop :=
  ∃ s e s' e', InS wr b s e ∧ RefS wr (b + 1) s' e' ∧ Alike s e s' e' ∧ s.size ≤ 500 ∧ s'.size ≤ 500 ∧ Below w0.heap.size w0 wr

theorem rinv_start (w w1 : World) (s : ByteArray) (hb : Below w.heap.size w w1) (h5 : s.size ≤ 500) :
    RInv w w1.heap.size ((w1.alloc (.cells #[.string s, .nilIface] 58)).alloc (.cells #[.string s, .int .i64 0] 45)) := by
  refine ⟨s, 0, s, 0, ?_, ?_, ⟨rfl, fun _ => rfl⟩, h5, h5, (hb.alloc hb.size _).alloc (by simp; have := hb.size; omega) _⟩
  · exact (InS_new w1 s).kept ((Below.refl _ _).alloc (Nat.le_refl _) _)
  · show ((w1.heap.push _).push _)[w1.heap.size + 1]? = _
    rw [show w1.heap.size + 1 = (w1.heap.push (.cells #[.string s, .nilIface] 58)).size by simp, Array.getElem?_push_size]

theorem rinv_next {w0 wr w1 w2 : World} {b : Nat} {s s' t t' : ByteArray} {e e' f f' : Int} (hB : w0.heap.size ≤ b) (hi : InS w1 b t f) (ho1 : Only b wr w1) (hr : RefS w2 (b + 1) t' f') (ho2 : Only (b + 1) w1 w2)
    (ha : Alike t f t' f') (h1 : t.size ≤ s.size) (h2 : t'.size ≤ s'.size) (hs : s.size ≤ 500) (hs' : s'.size ≤ 500) (hb : Below w0.heap.size w0 wr) (_ : e = e) (_ : e' = e') : RInv w0 b w2 :=
  ⟨t, f, t', f', hi.only ho2 (by omega), hr, ha, Nat.le_trans h1 hs, Nat.le_trans h2 hs', (hb.trans (ho1.below hB)).trans (ho2.below (by omega))⟩

set_option maxRecDepth 100000 in
set_option maxHeartbeats 1000000 in
theorem leReads_walk (s : ByteArray) (a : Option Addr) (len cap : Nat) (L : Nat → Item) (w : World) (_hlen : len ≤ maxLen) (hI : ItemsAt w a len L) (hg : ErrT w) :
    Calls Tryd.prog 4 #[.string s, .slice a len cap] w fun r w' => r = .returned (.bool true) ∧ Below w.heap.size w w' := by
  unfold maxLen at _hlen
  have HI : Hid (ItemsAt w a len L) := hI
  have HG : Hid (ErrT w) := hg
  clear hI hg
  by_cases h500 : 500 < s.size
  · go_enter Tryd.func4, Tryd.ntmps4
    go_wp2_with (go_at_call 6; refine (speaks_any _).mono ?_; rintro r w1 ⟨rfl, hb1⟩)
    go_ret
    exact ⟨rfl, hb1⟩
  · have h500' : s.size ≤ 500 := by omega
    go_enter Tryd.func4, Tryd.ntmps4
    go_wp2_with (go_at_call 6; refine (speaks_any _).mono ?_; rintro r w1 ⟨rfl, hb1⟩)
    refine (read_any _ _).mono ?_
    rintro r w2 ⟨rfl, rfl⟩
    go_wp2_with fail
    have HS : Hid (RInv w w1.heap.size ((w1.alloc (.cells #[.string s, .nilIface] 58)).alloc (.cells #[.string s, .int .i64 0] 45))) := rinv_start w w1 s hb1 h500'
    have hB := hb1.size
    clear hb1
    go_loopw [7] (fun i wr => ∃ k : Nat, k ≤ len ∧ k ≤ 20 ∧ i = .int .i64 k ∧ Hid (RInv w w1.heap.size wr)) (fun i _ => 20 - (intOf i).toNat)
    case atStart => exact ⟨0, Nat.zero_le _, Nat.zero_le _, rfl, HS⟩
    case round =>
      obtain ⟨k, hk, hk20, rfl, HR⟩ := hrel
      by_cases hlt : k < len ∧ k < 20
      · obtain ⟨hl, h20⟩ := hlt
        obtain ⟨t, e, t', e', hi, hr, ha, ht, ht', hb⟩ := HR.out
        have HIr := HI.out.below hb (Nat.le_refl _)
        obtain ⟨bb, off, rfl, hbb, hc⟩ := HIr.1.resolve_left (by omega)
        obtain ⟨d0, d1, d2, d3⟩ := hc k hl
        have Hi : Hid (InS wr w1.heap.size t e) := hi
        have Hr : Hid (RefS wr (w1.heap.size + 1) t' e') := hr
        have Ha : Hid (Alike t e t' e') := ha
        have Hb : Hid (Below w.heap.size w wr) := hb
        have hm := tmod_fix (L k).n 3 (by decide) (by decide)
        clear hc HIr hi hr ha hb d0 d3 hbb
        have h3 : (L k).n % 3 = 0 ∨ (L k).n % 3 = 1 ∨ (L k).n % 3 = 2 := by omega
        rcases h3 with h3 | h3 | h3
        · rw [h3] at hm
          clear h3
          have q : ((inNumF t e (L k).size).1 != (rnumF t' e' (L k).size).1) = false := by rw [(alike_num Ha.out _).1]; simp
          go_wp2_with fail
          refine (innum_any _ _ _ _ _ Hi.out).mono ?_
          rintro r w2 ⟨rfl, hi2, ho2⟩
          have hr2 := Hr.out.only ho2 (by omega)
          go_wp2_with fail
          refine (rnum_any _ _ _ _ _ hr2).mono ?_
          rintro r w3 ⟨rfl, hr3, ho3⟩
          have HN : Hid (RInv w w1.heap.size w3) := rinv_next (e := e) (e' := e') hB hi2 ho2 hr3 ho3 (alike_num Ha.out _).2 (inNumF_rest _ _ _) (rnumF_rest _ _ _) ht ht' Hb.out rfl rfl
          clear hi2 ho2 hr2 hr3 ho3
          go_wp2
          go_roundw
          case rel => exact ⟨k + 1, by omega, by omega, by go_num, HN⟩
          case measure => simp [intOf]; omega
        · rw [h3] at hm
          clear h3
          have q : ((takeF t e (L k).size).1.toList == (rtakeF t' e' (L k).size).1.toList) = true := streq_yes (alike_take Ha.out _).1.symm
          go_wp2_with fail
          refine (intext_any _ _ _ _ _ Hi.out).mono ?_
          rintro r w2 ⟨rfl, hi2, ho2⟩
          have hr2 := Hr.out.only ho2 (by omega)
          go_wp2_with fail
          refine (rtake_any _ _ _ _ _ hr2).mono ?_
          rintro r w3 ⟨rfl, hr3, ho3⟩
          have HN : Hid (RInv w w1.heap.size w3) := rinv_next (e := e) (e' := e') hB hi2 ho2 hr3 ho3 (alike_take Ha.out _).2 (takeF_rest _ _ _) (rtakeF_rest _ _ _) ht ht' Hb.out rfl rfl
          clear hi2 ho2 hr2 hr3 ho3
          go_wp2
          go_roundw
          case rel => exact ⟨k + 1, by omega, by omega, by go_num, HN⟩
          case measure => simp [intOf]; omega
        · rw [h3] at hm
          clear h3
          go_wp2_with fail
          refine (noughts_any _ _ _ _ _ Hi.out (by omega)).mono ?_
          rintro r w2 ⟨rfl, hi2, ho2⟩
          have hr2 := Hr.out.only ho2 (by omega)
          go_wp2_with fail
          refine (rnoughts_any _ _ _ _ _ hr2 (by omega)).mono ?_
          rintro r w3 ⟨rfl, hr3, ho3⟩
          have HN : Hid (RInv w w1.heap.size w3) := rinv_next (e := e) (e' := e') hB hi2 ho2 hr3 ho3 (alike_noughts Ha.out _) (noughtsF_rest _ _ _) (rnoughtsF_rest _ _ _) ht ht' Hb.out rfl rfl
          clear hi2 ho2 hr2 hr3 ho3
          go_wp2
          go_roundw
          case rel => exact ⟨k + 1, by omega, by omega, by go_num, HN⟩
          case measure => simp [intOf]; omega
      · obtain ⟨t, e, t', e', hi, hr, ha, ht, ht', hb⟩ := HR.out
        have Hi : Hid (InS wr w1.heap.size t e) := hi
        have Hr : Hid (RefS wr (w1.heap.size + 1) t' e') := hr
        have Hb : Hid (Below w.heap.size w wr) := hb
        have Hg : Hid (ErrT wr) := HG.out.below hb HG.out.lt
        have q : (endF t e == endF t' e') = true := by rw [alike_end ha]; simp
        clear hi hr ha hb
        by_cases hl : k < len
        · have h20 : ¬ k < 20 := fun h => hlt ⟨hl, h⟩
          clear hlt
          go_wp2_with fail
          refine (end_any _ _ _ _ Hi.out).mono ?_
          rintro r w2 ⟨rfl, rfl⟩
          go_wp2_with fail
          refine (code_any _ _ Hg.out).mono ?_
          rintro r w3 ⟨rfl, hb3⟩
          have hr3 : RefS w3 (w1.heap.size + 1) t' e' := by show w3.heap[_]? = _; rw [hb3.block _ (lt_of_heap Hr.out)]; exact Hr.out
          go_wp2_with fail
          refine (rend_any _ _ _ _ hr3).mono ?_
          rintro r w4 ⟨rfl, rfl⟩
          go_wp2
          go_ret
          exact ⟨rfl, Hb.out.trans (hb3.mono Hb.out.size)⟩
        · clear hlt
          go_wp2_with fail
          refine (end_any _ _ _ _ Hi.out).mono ?_
          rintro r w2 ⟨rfl, rfl⟩
          go_wp2_with fail
          refine (code_any _ _ Hg.out).mono ?_
          rintro r w3 ⟨rfl, hb3⟩
          have hr3 : RefS w3 (w1.heap.size + 1) t' e' := by show w3.heap[_]? = _; rw [hb3.block _ (lt_of_heap Hr.out)]; exact Hr.out
          go_wp2_with fail
          refine (rend_any _ _ _ _ hr3).mono ?_
          rintro r w4 ⟨rfl, rfl⟩
          go_wp2
          go_ret
          exact ⟨rfl, Hb.out.trans (hb3.mono Hb.out.size)⟩

theorem leReads_calls {H : Type} {enc : TypeId × Value → H} {sp : Nat → Bool} {held : Bool} {d : DataW H} {p : List MemPlace} (s : ByteArray) (a : Option Addr) (len cap : Nat) (w : World) (_ : s.size ≤ maxLen)
    (h : DataW.Trod enc Tryd.prog w 0 sp held 22 (.slice a len cap) d p) (hg : ErrT w) :
    Calls Tryd.prog 4 #[.string s, .slice a len cap] w fun r w' => r = .returned (.bool true) ∧ Below w.heap.size w w' := by
  obtain ⟨L, hL, hl⟩ := items_of_trod h
  exact leReads_walk s a len cap L w hl hL hg

end Go.Proofs.YtmcaiaafdbeihaaDoor.Le
