/-
  The document's holds: a number struck out of a list; rows of things. No condition.
-/
import Derived.Test.YtgfbcekmnpdoeaaHdK
namespace Go.Proofs.Ytgfbcekmnpdoeaa.Hdi
open Go.ChangeShapes Go.WideShapes Go.ChangeAt Go.RowKit Go.Proofs.Fa Go.Proofs.Ytgfbcekmnpdoeaa.Hd
open Go.Proofs.Ytgfbcekmnpdoeaa.Nv (Turn Grow lt_of_heap lt_of_cell cell_of_heap free_of_heap icells scells icells_one scells_one)

set_option maxRecDepth 100000
set_option maxHeartbeats 4000000

variable {w : World}

/-- append of one number onto a row of one's own, behind a literal laid for it. -/
theorem app_lit {w0 : Nat} {W : World} {v : Value} {l : List Int} (h : TRow W w0 v l) (hB : w0 ≤ W.heap.size) (hl : l.length ≤ 100000) (x : Int) :
    ∃ v' W', (Builtin.append_ #[29, 29] 29 #[v, .slice (some ⟨W.heap.size, 0, none⟩) 1 1]).run Try.prog (W.alloc (Obj.cells #[.int .i64 x] 3)) = .ok v' W' ∧ TRow W' w0 v' (l ++ [x]) ∧ (∀ B, B ≤ w0 → Below B W W') ∧ (∀ k, k < W.heap.size → v.ownBlock ≠ some k → W'.heap[k]? = W.heap[k]?) := by
  have hb : Below W.heap.size W (W.alloc (Obj.cells #[.int .i64 x] 3)) := (Below.refl _ _).alloc (Nat.le_refl _) _
  have hr2 : TRow (W.alloc (Obj.cells #[.int .i64 x] 3)) w0 v l := h.keep (fun g hg => hb.block g (h.lt g hg))
  obtain ⟨v', W', hrun, hr, hg, _⟩ := app_all (m := [x]) hr2 (by rw [World.size_alloc]; omega) hl (lit_at W x) (by show 1 ≤ 100000; decide) 29
  exact ⟨v', W', hrun, hr, fun B hB' => (hb.mono (by omega)).grown hg (by rw [World.size_alloc]; omega) (fun k e => Nat.le_trans hB' (h.ge k e)), fun k hk hne => (hg.block k (by rw [World.size_alloc]; omega) (fun e => hne e.symm)).trans (hb.block k hk)⟩

theorem without_any (v : Value) (l : List Int) (n : Int) (hx : TAt w v l) (hl : l.length ≤ 100000) :
    Calls Try.prog 42 #[v, .int .i64 n] w fun e w' => ∃ v', e = .returned v' ∧ TRow w' w.heap.size v' (strike l n) ∧ Below w.heap.size w w' := by
  have HX : Hid (TAt w v l) := hx
  obtain ⟨a, cap, hv⟩ : ∃ a cap, v = .slice a l.length cap := by
    rcases hx with ⟨rfl, rfl⟩ | ⟨g, off, cap, rfl, _⟩
    · exact ⟨none, 0, rfl⟩
    · exact ⟨_, _, rfl⟩
  subst hv
  clear hx
  go_enter Try.func42, Try.ntmps42
  go_wp2
  go_loopw [5, 6] (fun ov iv wr => ∃ k : Nat, k ≤ l.length ∧ iv = .int .i64 k ∧ TRow wr w.heap.size ov (strike (l.take k) n) ∧ Below w.heap.size w wr) (fun _ iv _ => l.length - (intOf iv).toNat)
  case atStart => exact ⟨0, Nat.zero_le _, rfl, World.ownsRow_nil _ _ _ _, Below.refl _ _⟩
  case round =>
    obtain ⟨k, hk, rfl, ho, hb⟩ := hrel
    have HO : Hid (TRow wr w.heap.size u5 (strike (l.take k) n)) := ho
    have HB : Hid (Below w.heap.size w wr) := hb
    clear ho hb
    by_cases hlt : k < l.length
    · rcases HX.out with ⟨_, h0⟩ | ⟨g, off, cap', he, hc1, hc2, hgl, hc⟩
      · rw [h0] at hlt; cases hlt
      cases he
      have ck := (HB.out.cell (p := ⟨g, off + k, none⟩) hgl).trans (hc k hlt)
      have hsl : (strike (l.take k) n).length ≤ 100000 := by
        have := List.length_filter_le (fun x => decide (x ≠ n)) (l.take k)
        rw [List.length_take] at this
        show (List.filter _ _).length ≤ _
        omega
      have HST : Hid (strike (l.take (k + 1)) n = if l[k] = n then strike (l.take k) n else strike (l.take k) n ++ [l[k]]) := by
        show _ = _
        rw [List.take_succ_eq_append_getElem hlt]
        unfold strike
        rw [List.filter_append]
        by_cases e : l[k] = n
        · simp [e]
        · simp [e]
      have HAP := app_lit HO.out HB.out.size hsl l[k]
      clear hc
      generalize l[k] = x at *
      by_cases hxn : x = n
      · have hbn : (x != n) = false := by rw [hxn]; simp
        rw [if_pos hxn] at HST
        clear HAP hxn
        go_wp2
        go_roundw
        case rel => exact ⟨k + 1, by omega, by go_num, by rw [HST.out]; exact HO.out, HB.out⟩
        case measure => simp [intOf]; omega
      · have hbn : (x != n) = true := by simpa using hxn
        rw [if_neg hxn] at HST
        obtain ⟨v', W', hrun, hr, hbl, _⟩ := HAP
        have HR : Hid (TRow W' w.heap.size v' (strike (l.take k) n ++ [x])) := hr
        have HBL : Hid (Below w.heap.size w W') := HB.out.trans (hbl _ (Nat.le_refl _))
        clear hxn hr hbl
        go_wp2_with (at_builtin; refine wpList_append_run rfl _ _ _ rfl _ _ rfl rfl hrun ?_)
        go_roundw
        case rel => exact ⟨k + 1, by omega, by go_num, by rw [HST.out]; exact HR.out, HBL.out⟩
        case measure => simp [intOf]; omega
    · obtain rfl : k = l.length := by omega
      rw [List.take_length] at HO
      go_wp2
      go_ret
      exact ⟨_, rfl, HO.out, HB.out⟩

end Go.Proofs.Ytgfbcekmnpdoeaa.Hdi
