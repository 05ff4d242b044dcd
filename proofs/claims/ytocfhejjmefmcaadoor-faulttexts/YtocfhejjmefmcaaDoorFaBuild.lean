/-
  What is written into a strings.Builder that the call has made. No condition.
-/
import Derived.Test.YtocfhejjmefmcaaDoorFaIter
import Derived.Test.YtocfhejjmefmcaaDoorLeApp
import Derived.Test.YtocfhejjmefmcaaDoorShelf
import Derived.Lib.OthersKept
namespace Go.Proofs.YtocfhejjmefmcaaDoor.Fa
open Go.ChangeShapes Go.WideShapes Go.ChangeAt Go.RowKit Go.Proofs.Fa

theorem info_u8 : (Tryd.prog.info? 5).map (fun i => (i.zero, i.size, i.bytes)) = some (some (.int .u8 0), 1, 1) := by kernel_rfl

theorem size_B : (Tryd.prog.info? 99).map (·.size) = some 2 := by kernel_rfl
theorem lies_B : liesAt Tryd.prog Tryd.prog.depth 99 (2 / Tryd.prog.cellsOf 99) 0 99 1 = true := by kernel_rfl

set_option maxRecDepth 100000
set_option maxHeartbeats 2000000
theorem check_used (b : Nat) (w : World) (hc : w.cell? ⟨b, 0, none⟩ = some (.pointer (some ⟨b, 0, none⟩))) : Calls Tryd.prog 50 #[.pointer (some ⟨b, 0, none⟩)] w fun e w' => e = .returned (.tuple #[]) ∧ w' = w := by
  obtain ⟨j, hj, _⟩ := Option.map_eq_some_iff.1 size_B
  go_enter Tryd.func50, Tryd.ntmps50
  go_wp2
  rw [Lib.run_neq_ptr_same w _ Tryd.underlying97 hj]
  go_wp2
  go_end0
  exact ⟨rfl, rfl⟩
theorem check_new (b : Nat) (w : World) (hc : w.cell? ⟨b, 0, none⟩ = some (.pointer none)) (hsh : w.shape? b = some (99, 2)) (hf : w.frozen? ⟨b, 0, none⟩ = false) : Calls Tryd.prog 50 #[.pointer (some ⟨b, 0, none⟩)] w fun e w' => e = .returned (.tuple #[]) ∧ w' = w.setCell ⟨b, 0, none⟩ (.pointer (some ⟨b, 0, none⟩)) := by
  obtain ⟨j, hj, hjs⟩ := Option.map_eq_some_iff.1 size_B
  go_enter Tryd.func50, Tryd.ntmps50
  go_wp2
  rw [Lib.run_to_unsafe w ⟨b, 0, none⟩ Tryd.underlying97 Tryd.underlying78 hj (by rw [hjs]; decide) hsh (Nat.zero_lt_succ 1)]
  simp only [Result.andThen]
  rw [Oper.upon_value]
  go_wp2
  rw [run_callFunc_extern Tryd.func52 (by kernel_rfl) (by kernel_rfl) (by kernel_rfl) (e := Extern.AbiNoEscape.same) (by kernel_rfl)]
  rw [Lib.run_noEscape]
  simp only [Result.andThen]
  rw [Oper.upon_value]
  go_wp2
  rw [Lib.run_from_unsafe w ⟨b, 0, none⟩ Tryd.underlying78 Tryd.underlying97 hj hsh lies_B]
  simp only [Result.andThen]
  rw [Oper.upon_value]
  go_wp2
  go_end0
  exact ⟨rfl, rfl⟩

/-- copyCheck, at a builder of the call's own. -/
theorem check_any (B b : Nat) (bs : List Value) (w : World) (h : Lib.IsBuilder 99 5 B b bs w) :
    Calls Tryd.prog 50 #[.pointer (some ⟨b, 0, none⟩)] w fun e w' => e = .returned (.tuple #[]) ∧ Lib.BuilderAt 99 5 B b (.pointer (some ⟨b, 0, none⟩)) bs w' ∧ w.grownBy w' (some b) := by
  rcases h with h | h
  · refine (check_new b w h.cell0 h.shape h.frozen0).mono ?_
    rintro e w' ⟨rfl, rfl⟩
    exact ⟨rfl, h.used _, ⟨rfl, rfl, rfl, by simp, fun k _ hk => heap_setCell_other w ⟨b, 0, none⟩ k _ (fun e => hk (by rw [e]))⟩⟩
  · refine (check_used b w h.cell0).mono ?_
    rintro e w' ⟨rfl, rfl⟩
    exact ⟨rfl, h, ⟨rfl, rfl, rfl, Nat.le_refl _, fun _ _ _ => rfl⟩⟩

theorem others_grown {e : TypeId} {b : Option Nat} {w w' : World} {row : Option Nat} (hg : w.grownBy w' row) (hr : ∀ k, row = some k → some k = b ∨ ∃ c fz, w.heap[k]? = some (.cells c e fz)) : Lib.OthersKept e b w w' := by
  intro k o hk hb ho
  refine (hg.block k (lt_of_heap hk) ?_).trans hk
  intro h
  rcases hr k h.symm with h1 | ⟨c, fz, h1⟩
  · exact hb h1
  · rw [hk] at h1; exact ho c fz (Option.some.inj h1)

theorem kept_block {w w' : World} {b : Nat} {o : Obj} {v : Value} (h : w.heap[b]? = some o) (hne : v.ownBlock ≠ some b) (hg : w.grownBy w' v.ownBlock) : w'.heap[b]? = some o :=
  (hg.block b (lt_of_heap h) (fun e => hne e.symm)).trans h
theorem row_form {w : World} {B : Nat} {e : TypeId} {z : Nat} {v : Value} {n : Nat} {xs : List Value} (h : w.ownsRow B e z v n xs) : ∃ a cap, v = .slice a n cap := by
  rcases h.2 with ⟨rfl, rfl⟩ | ⟨g, cap, _, rfl, _⟩
  · exact ⟨_, _, rfl⟩
  · exact ⟨_, _, rfl⟩

theorem write_any (B b : Nat) (l : List UInt8) (s : ByteArray) (w : World) (h : Lib.IsBuilder 99 5 B b (Lib.byteCells l) w) (hl : l.length + s.size ≤ 1000000000) (hBw : B ≤ w.heap.size) :
    Calls Tryd.prog 44 #[.pointer (some ⟨b, 0, none⟩), .string s] w fun e w' => (∃ v, e = .returned v) ∧ Lib.IsBuilder 99 5 B b (Lib.byteCells (l ++ s.data.toList)) w' ∧ Below B w w' ∧ Lib.OthersKept 5 (some b) w w' := by
  obtain ⟨i0, hi, hz0, hz1, hz2⟩ := info_parts info_u8
  have hBb : B ≤ b := by rcases h with h | h <;> exact h.1
  have H : Hid (Lib.IsBuilder 99 5 B b (Lib.byteCells l) w) := h
  clear h
  have hlen : (Lib.byteCells l).length = l.length := Lib.byteCells_length l
  go_enter Tryd.func44, Tryd.ntmps44
  go_wp2_with fail
  refine (check_any _ _ _ _ H.out).mono ?_
  rintro e w1 ⟨rfl, ⟨_, v, hb1, hown, hne⟩, hg1⟩
  rw [hlen] at hown
  have HG : Hid (w.grownBy w1 (some b)) := hg1
  have HB1 : Hid (w1.heap[b]? = some (.cells #[.pointer (some ⟨b, 0, none⟩), v] 99 (0, 0))) := hb1
  have HO : Hid (w1.ownsRow B 5 1 v l.length (Lib.byteCells l)) := hown
  have hc1 := cell_of_heap hb1 1 v rfl
  have hBw1 : B ≤ w1.heap.size := Nat.le_trans hBw hg1.size
  clear hg1 hb1 hown
  go_wp2_with (at_builtin; refine Le.wpList_append_own_str _ rfl _ _ 90 9 rfl B 5 i0 Tryd.underlying90 Tryd.underlying9 hi hz0 hz1 hz2 _ _ _ rfl HO.out s rfl (by unfold maxLen; omega) (by omega) hBw1 ?_; intro v' w2 hown2 hg2 _hn; obtain ⟨a2, cap2, hv2⟩ := row_form hown2; subst hv2; clear _hn; have hb2 := (kept_block HB1.out hne hg2); have hc2 := cell_of_heap hb2 1 v rfl; have hf2 := free_of_heap hb2 1; have HB2 : Hid (w2.heap[b]? = some (.cells #[.pointer (some ⟨b, 0, none⟩), v] 99 (0, 0))) := hb2; clear hb2; have HO2 : Hid (w2.ownsRow B 5 1 (.slice a2 (l.length + s.size) cap2) (l.length + s.size) (Lib.byteCells l ++ Lib.strCells s)) := hown2; have HG2 : Hid (w1.grownBy w2 v.ownBlock) := hg2; clear hown2 hg2)
  go_ret2
  have hlen2 : (Lib.byteCells (l ++ s.data.toList)).length = l.length + s.size := by rw [Lib.byteCells_length, List.length_append]; rfl
  have hpar : ∀ k, v.ownBlock = some k → some k = some b ∨ ∃ c fz, w1.heap[k]? = some (.cells c 5 fz) := by
    intro k hk
    rcases HO.out.2 with ⟨rfl, _⟩ | ⟨g, cap, cur, rfl, _, hh, _⟩
    · cases hk
    · cases hk; exact .inr ⟨_, _, hh⟩
  refine ⟨⟨_, rfl⟩, .inr (Lib.BuilderAt.put hBb HB2.out (by rw [hlen2, Lib.byteCells_append]; exact HO2.out) (by decide)), ?_, ?_⟩
  · exact (((Below.refl B w).grown HG.out hBw (fun k e => by cases e; exact hBb)).grown HG2.out hBw1 (fun k e => (HO.out.lt k e).1)).setCell (p := ⟨b, 1, none⟩) hBb _
  · exact ((others_grown HG.out (fun k e => .inl (by rw [← e]))).trans (others_grown HG2.out hpar)).trans (others_grown (grown_set w2 b 1 _) (fun k e => .inl (by rw [← e])))

end Go.Proofs.YtocfhejjmefmcaaDoor.Fa
