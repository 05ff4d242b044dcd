/-
  The document's list of an inode's sectors. Condition: extents that lie below 2048.
-/
import Derived.Test.YtadimbpgdihjlaaDoorIdRef
namespace Go.Proofs.YtadimbpgdihjlaaDoor.Id
open Go.ChangeShapes Go.WideShapes Go.ChangeAt Go.RowKit Go.Proofs.Fa

theorem info_int : (Tryd.prog.info? 3).map (fun i => (i.zero, i.size, i.bytes)) = some (some (.int .i64 0), 1, 8) := by kernel_rfl
theorem icells_append (a b : List Int) : icells (a ++ b) = icells a ++ icells b := by simp [icells]
theorem cells_newI (w : World) (k : Nat) (hk : w.heap.size = k) (v0 : Value) (t : TypeId) (j : Nat) (u : Value) (h : [v0][j]? = some u) : (w.alloc (Obj.cells #[v0] t)).cell? ((⟨k, 0, none⟩ : Addr).add j) = some u := by
  subst hk
  have e : (⟨w.heap.size, 0, none⟩ : Addr).add j = ⟨w.heap.size, j, none⟩ := by simp [Addr.add_lit]
  rw [e]
  exact cell_of_heap (heap_alloc_new w _) j u (by simpa using h)

/-- The first sectors of an extent. -/
def upF (p : Int) (k : Nat) : List Int := (List.range k).map (fun j => p + ((j : Nat) : Int))
theorem upF_succ (p : Int) (k : Nat) : upF p (k + 1) = upF p k ++ [p + (k : Int)] := by unfold upF; rw [List.range_succ]; simp
theorem upF_length (p : Int) (k : Nat) : (upF p k).length = k := by simp [upF]
theorem secF_drop (l : List Ext) (i : Nat) (hi : i < l.length) : secF (l.drop i) = upF l[i].pos l[i].len.toNat ++ secF (l.drop (i + 1)) := by rw [List.drop_eq_getElem_cons hi]; rfl

variable {w : World} {B : Nat}
set_option maxRecDepth 100000
set_option maxHeartbeats 1000000

theorem sectors_any (ver : Int) (v : Value) (l : List Ext) (hr : RowR w B v l) (hn : l.length ≤ 100) (hl : OkL l) :
    Calls Tryd.prog 23 #[ino ver v] w fun r w' => ∃ v', r = .returned v' ∧ RowI w' w.heap.size v' (secF l) ∧ Below w.heap.size w w' := by
  obtain ⟨i0, hi, hz0, hz1, hz2⟩ := info_parts info_int
  obtain ⟨n, hln⟩ : ∃ n, l.length = n := ⟨_, rfl⟩
  obtain ⟨a, cap, hv0, hmx⟩ := row_slice hr
  rw [hln] at hv0 hmx hn
  subst hv0
  have HR : Hid (RowR w B (.slice a n cap) l) := hr
  have HL : Hid (OkL l) := hl
  have htot : (secF l).length ≤ 204800 := by
    have h1 := secF_length hl
    have h2 := sizeF_le hl
    rw [hln] at h2
    omega
  clear hr hl
  simp only [ino]
  obtain ⟨w0, hw0⟩ : ∃ w0, w0 = w.alloc (Obj.cells #[.int .i64 ver, .slice a n cap] 29) := ⟨_, rfl⟩
  have HX0 : Hid (w0.heap[w.heap.size]? = some (.cells #[.int .i64 ver, .slice a n cap] 29 (0, 0))) := by rw [hw0]; exact heap_alloc_new _ _
  have HB0 : Hid (Below w.heap.size w w0) := by rw [hw0]; exact (Below.refl _ _).alloc (Nat.le_refl _) _
  go_enter Tryd.func23, Tryd.ntmps23
  go_wp2_with fail
  rw [← hw0]
  clear hw0
  go_loopw [3, 4] (fun o i wr => ∃ (k : Nat) (xa : Option Addr) (xc : Nat) (xs : List Int), k ≤ n ∧ i = .int .i64 k ∧ o = .slice xa xs.length xc ∧ xs ++ secF (l.drop k) = secF l ∧ RowI wr (w.heap.size + 1) (.slice xa xs.length xc) xs ∧ wr.heap[w.heap.size]? = some (.cells #[.int .i64 ver, .slice a n cap] 29 (0, 0)) ∧ Below w.heap.size w wr) (fun _ i _ => n - (intOf i).toNat)
  case atStart => exact ⟨0, none, 0, [], Nat.zero_le _, rfl, rfl, by simp, World.ownsRow_nil _ _ _ _, HX0.out, HB0.out⟩
  case round =>
    obtain ⟨k, xa, xc, xs, hk, rfl, rfl, hsec, hrow, hX, hB⟩ := hrel
    have HRI : Hid (RowI wr (w.heap.size + 1) (.slice xa xs.length xc) xs) := hrow
    have HX : Hid (wr.heap[w.heap.size]? = some (.cells #[.int .i64 ver, .slice a n cap] 29 (0, 0))) := hX
    have HB : Hid (Below w.heap.size w wr) := hB
    obtain ⟨x0, x1, _, _⟩ := agg2 hX
    clear hrow hX hB HX0 HB0
    by_cases hlt : k < n
    · rw [secF_drop l k (by omega)] at hsec
      have hok := HL.out.at k (by omega)
      unfold Ok at hok
      have HSEC : Hid (xs ++ (upF l[k].pos l[k].len.toNat ++ secF (l.drop (k + 1))) = secF l) := hsec
      clear hsec
      have HRall : Hid (∀ w', Below w.heap.size w w' → (∃ g, a = some ⟨g, 0, none⟩ ∧ w'.cell? ⟨g, k * 2, none⟩ = some (.int .i64 l[k].pos) ∧ w'.cell? ⟨g, k * 2 + 1, none⟩ = some (.int .i64 l[k].len))) := by
        intro w' hb'
        have hRk : RowR w' B _ l := row_below HR.out hb' (Nat.le_refl _)
        obtain ⟨g, cap', he⟩ := row_some hRk (by omega)
        cases he
        exact ⟨g, rfl, hRk.ext k (by omega)⟩
      generalize l[k] = y at *
      obtain ⟨yp, yl⟩ := y
      dsimp only at hok HSEC HRall
      obtain ⟨g, rfl, _, _⟩ := HRall.out _ HB.out
      go_wp2_with fail
      go_loopw [3, 5] (fun o i wr => ∃ (j : Nat) (xa : Option Addr) (xc m : Nat), (j : Int) ≤ yl ∧ m = xs.length + j ∧ i = .int .i64 j ∧ o = .slice xa m xc ∧ RowI wr (w.heap.size + 1) (.slice xa m xc) (xs ++ upF yp j) ∧ wr.heap[w.heap.size]? = some (.cells #[.int .i64 ver, .slice (some ⟨g, 0, none⟩) n cap] 29 (0, 0)) ∧ Below w.heap.size w wr) (fun _ i _ => yl.toNat - (intOf i).toNat)
      case atStart => exact ⟨0, xa, xc, xs.length, by omega, rfl, rfl, rfl, by simpa [upF] using HRI.out, HX.out, HB.out⟩
      case round =>
        obtain ⟨j, xa', xc', m, hj, hm, rfl, rfl, hrow, hX, hB⟩ := hrel
        have HRI2 : Hid (RowI wr (w.heap.size + 1) (.slice xa' m xc') (xs ++ upF yp j)) := hrow
        have HX2 : Hid (wr.heap[w.heap.size]? = some (.cells #[.int .i64 ver, .slice (some ⟨g, 0, none⟩) n cap] 29 (0, 0))) := hX
        have HB2 : Hid (Below w.heap.size w wr) := hB
        obtain ⟨x0, x1, _, _⟩ := agg2 hX
        obtain ⟨g', hg', e0, e1⟩ := HRall.out _ hB
        cases hg'
        clear hrow hX hB
        have hmn : m ≤ 204800 := by
          have h1 := congrArg List.length HSEC.out
          simp only [List.length_append, upF_length] at h1
          omega
        have HM : Hid (m = xs.length + j) := hm
        clear hm
        by_cases hjl : (j : Int) < yl
        · have hj3 : (j : Int) < 3000 := by omega
          have hown := HRI2.out
          unfold RowI at hown
          rw [show (xs ++ upF yp j).length = m by rw [List.length_append, upF_length, HM.out]] at hown
          have HOWN : Hid (wr.ownsRow (w.heap.size + 1) 3 1 (.slice xa' m xc') m (icells (xs ++ upF yp j))) := hown
          clear hown
          go_wp2_with (
            at_builtin
            refine wpList_append_near _ rfl _ _ 67 rfl (w.heap.size + 1) 3 i0 _ 1 8 Tryd.underlying67 hi hz0 hz1 hz2 rfl (by decide) (.slice xa' m xc') m (icells (xs ++ upF yp j)) rfl (World.ownsRow.alloc HOWN.out _) ⟨wr.heap.size, 0, none⟩ 1 1 [.int .i64 (yp + j)] rfl rfl (cells_newI _ _ rfl _ _) (by intro u hu; simp only [List.mem_cons, List.not_mem_nil, or_false] at hu; rcases hu with rfl; rfl) (by unfold maxLen; omega) (by omega) (by have := lt_of_heap HX2.out; simp; omega) ?_
            intro v5 w5 hown5 hgrow hnear
            obtain ⟨a5, cap5, hv5, hm5⟩ := row_slice hown5
            subst hv5
            have HR5 : Hid (RowI w5 (w.heap.size + 1) (.slice a5 (m + 1) cap5) (xs ++ upF yp (j + 1))) := by
              show World.ownsRow _ _ _ _ _ _ _
              rw [upF_succ, ← List.append_assoc, icells_append, List.length_append, List.length_append, upF_length, ← HM.out]
              exact hown5
            have HX5 : Hid (w5.heap[w.heap.size]? = some (.cells #[.int .i64 ver, .slice (some ⟨g, 0, none⟩) n cap] 29 (0, 0))) := ((hgrow.block _ (by have := lt_of_heap HX2.out; simp; omega) (fun e => by have := row_ge HRI2.out _ e.symm; omega)).trans (Below.heap_alloc _ _ _ (lt_of_heap HX2.out))).trans HX2.out
            have HB5 : Hid (Below w.heap.size w w5) := (HB2.out.alloc HB2.out.size _).grown hgrow (by have := HB2.out.size; simp; omega) (fun k e => by have := row_ge HRI2.out k e; omega)
            clear hown5 hgrow hnear hm5)
          go_roundw
          case rel => exact ⟨j + 1, a5, cap5, m + 1, by omega, by rw [HM.out]; omega, by go_num, rfl, HR5.out, HX5.out, HB5.out⟩
          case measure => simp [intOf]; omega
        · have hjy : j = yl.toNat := by omega
          have HRI3 : Hid (RowI wr (w.heap.size + 1) (.slice xa' m xc') (xs ++ upF yp yl.toNat)) := by rw [← hjy]; exact HRI2.out
          have HML : Hid (m = (xs ++ upF yp yl.toNat).length) := by show m = _; rw [List.length_append, upF_length, ← hjy]; exact HM.out
          clear hjy
          go_wp2
          go_roundw
          case rel => exact ⟨k + 1, xa', xc', xs ++ upF yp yl.toNat, by omega, by go_num, by rw [← HML.out], by rw [List.append_assoc]; exact HSEC.out, by rw [← HML.out]; exact HRI3.out, HX2.out, HB2.out⟩
          case measure => simp [intOf]; omega
    · obtain rfl : k = n := by omega
      have HE : Hid (xs = secF l) := by
        show _ = _
        rw [List.drop_of_length_le (by omega)] at hsec
        simpa [secF] using hsec
      clear hsec
      go_wp2
      go_ret
      refine ⟨_, rfl, ?_, HB.out⟩
      rw [← HE.out]
      exact row_base HRI.out (by omega)

end Go.Proofs.YtadimbpgdihjlaaDoor.Id
