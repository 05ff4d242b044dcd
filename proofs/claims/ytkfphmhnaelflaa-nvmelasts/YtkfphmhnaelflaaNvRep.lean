/-
  One text, so many times, as a row. Condition: from 1 to 2048 times.
-/
import Derived.Test.YtkfphmhnaelflaaNvCo
import Derived.Test.YtkfphmhnaelflaaShelf
import Derived.Laws.CopyRow
import Derived.Deep.OwnRows
namespace Go.Proofs.Ytkfphmhnaelflaa.Nv
open Go.ChangeShapes Go.WideShapes Go.ChangeAt Go.RowKit Go.Proofs.Fa

theorem info_str : (Try.prog.info? 9).map (fun i => (i.zero, i.size, i.bytes)) = some (some (.string ⟨#[]⟩), 1, 16) := by kernel_rfl
theorem info_str1 : (Try.prog.info? 9).map (·.size) = some 1 := by kernel_rfl

/-- The row while it is filled. -/
def fillC (s : ByteArray) (k c : Nat) : Array Value := (List.replicate k (Value.string s) ++ List.replicate (c - k) (Value.string ⟨#[]⟩)).toArray
theorem fill_size (s : ByteArray) (k c : Nat) (h : k ≤ c) : (fillC s k c).size = c := by simp [fillC]; omega
theorem fill_copy (s : ByteArray) (k m c : Nat) (h : k + m ≤ c) : ((fillC s k c).toList.take k ++ List.replicate m (Value.string s) ++ (fillC s k c).toList.drop (k + m)).toArray = fillC s (k + m) c := by
  unfold fillC
  congr 1
  simp only
  rw [List.take_append_of_le_length (by simp), List.take_replicate, Nat.min_self, List.drop_append, List.drop_replicate, List.length_replicate, List.drop_replicate, List.replicate_append_replicate]
  rw [show k - (k + m) = 0 by omega, show c - k - (k + m - k) = c - (k + m) by omega]
  simp

theorem made_fill (s : ByteArray) (c : Nat) : madeCells #[Value.string ⟨#[]⟩] c = fillC s 0 c := by
  apply Array.ext
  · rw [fill_size _ _ _ (Nat.zero_le _), size_madeCells]
  · intro i h1 h2
    simp [madeCells, fillC, Nat.mod_one]
theorem fill_get (s : ByteArray) (k c j : Nat) (hj : j < k) : (fillC s k c)[j]? = some (.string s) := by
  simp only [fillC, List.getElem?_toArray]
  rw [List.getElem?_append_left (by simpa using hj), List.getElem?_replicate, if_pos hj]
theorem rep_one (m : Nat) (s : ByteArray) : ∀ v ∈ List.replicate m (Value.string s), v.oneCell' = true := by
  intro v hv
  rw [(List.mem_replicate.1 hv).2]; rfl

variable {w : World}
theorem wpH_copy {P : Program} {o : Oper} {a : Act} {w w' : World} {tm : Nat → Option Bool} {K : Act → World → Prop} {Q : Exit → Act → World → Prop} {s x : Operand} {t : TypeId} {v v2 v' : Value} (hwant : Region.wanted o tm = true)
    (ho : o.op = .call { callee := .builtin .copy, args := #[s, x], argTypes := #[t, t] }) (hs : a.eval s = v) (hx : a.eval x = v2) (hr : (Builtin.copy_ #[t, t] o.type #[v, v2]).run P w = .ok v' w') (hK : K (a.put o.dst v') w') :
    if Region.wanted o tm = true then Oper.wp P o a w K Q else K (a.put o.dst undef) w := by
  rw [if_pos hwant]
  unfold Oper.wp execOp
  simp only [ho, resolve, invoke, builtin, Sem.run_bind, Sem.run_pure, Result.andThen_ok, List.map_toArray, List.map_cons, List.map_nil, hs, hx, hr]
  exact hK
/-- A part of the row is laid behind what is filled. -/
theorem copy_fill (W : World) (q k m c n : Nat) (s : ByteArray) (a : Addr) (sLen sCap dCap : Nat) (hq : W.heap[q]? = some (.cells (fillC s k c) 9 (0, 0))) (hm : m = Nat.min sLen n) (hk : k + m ≤ c) (ha : ∀ j, j < m → W.cell? (a.add j) = some (.string s)) :
    (Builtin.copy_ #[50, 50] 3 #[.slice (some ⟨q, k, none⟩) n dCap, .slice (some a) sLen sCap]).run Try.prog W = .ok (.int .i64 m) (W.setRow q (fillC s (k + m) c)) := by
  have h := run_copy_row (P := Try.prog) W 50 50 3 9 q k n dCap a sLen sCap (fillC s k c) 9 (List.replicate m (.string s)) Try.underlying50 info_str1 hq (by simpa using hm) (by
    intro j v hv
    rw [List.getElem?_replicate] at hv
    split at hv
    · cases hv; exact ha j (by assumption)
    · cases hv) (by rw [List.length_replicate, fill_size _ _ _ (by omega)]; exact hk) (rep_one _ _)
  rw [List.length_replicate, fill_copy _ _ _ _ hk] at h
  exact h
set_option maxRecDepth 100000
set_option maxHeartbeats 4000000

theorem repeat_any (g : Nat) (s : ByteArray) (c : Nat) (h1 : 1 ≤ c) (hc : c ≤ 2048) (hx : w.heap[g]? = some (.cells #[.string s] 9 (0, 0))) :
    Calls Try.prog 18 #[.slice (some ⟨g, 0, none⟩) 1 1, .int .i64 c] w fun e w' => ∃ q, e = .returned (.slice (some ⟨q, 0, none⟩) c c) ∧ w'.heap[q]? = some (.cells (fillC s c c) 9 (0, 0)) ∧ w.heap.size ≤ q ∧ Below w.heap.size w w' := by
  have HX : Hid (w.heap[g]? = _) := hx
  have hw : (c : Int) % 18446744073709551616 = (c : Int) := by omega
  clear hx
  go_enter Try.func18, Try.ntmps18
  go_wp2_with fail
  refine (Try.bits_Mul 1 c (by decide) (by omega) w).mono ?_
  rintro e w1 ⟨rfl, rfl⟩
  rw [show (1 * c / 18446744073709551616 : Nat) = 0 by omega, show (1 * c % 18446744073709551616 : Nat) = c by omega, show ((0 : Nat) : Int) = 0 from rfl]
  have hmk := run_make_row' (P := Try.prog) 50 9 (.string ⟨#[]⟩) 16 Try.underlying50 info_str rfl .i64 .i64 c (by omega) (by omega) w1
  have hlo : ¬ (9223372036854775807 : Int) < (c : Int) := by omega
  obtain ⟨W1, hW1⟩ : ∃ W1, W1 = w1.alloc (Obj.cells (madeCells #[Value.string ⟨#[]⟩] c) 9) := ⟨_, rfl⟩
  have HB1 : Hid (Below w1.heap.size w1 W1) := by rw [hW1]; exact (Below.refl _ _).alloc (Nat.le_refl _) _
  have HQ1 : Hid (W1.heap[w1.heap.size]? = some (.cells (fillC s 0 c) 9 (0, 0))) := by rw [hW1, made_fill s c]; exact heap_alloc_new _ _
  have hcp := copy_fill W1 w1.heap.size 0 1 c c s ⟨g, 0, none⟩ 1 1 c HQ1.out (by show 1 = min 1 c; omega) (by omega) (by
    intro j hj
    obtain rfl : j = 0 := by omega
    exact cell_of_heap ((HB1.out.block _ (lt_of_heap HX.out)).trans HX.out) 0 _ rfl)
  obtain ⟨W2, hW2⟩ : ∃ W2, W2 = W1.setRow w1.heap.size (fillC s (0 + 1) c) := ⟨_, rfl⟩
  have HQ2 : Hid (W2.heap[w1.heap.size]? = some (.cells (fillC s 1 c) 9 (0, 0))) := by rw [hW2]; exact setRow_heap _ _ _ _ _ _ HQ1.out
  have HB2 : Hid (Below w1.heap.size w1 W2) := by
    rw [hW2]
    refine ⟨HB1.out.os, HB1.out.tape, HB1.out.output, by have := HB1.out.size; simpa using this, fun k hk => ?_⟩
    rw [setRow_other _ _ k _ (by omega)]
    exact HB1.out.block k hk
  rw [← hW2, hW1] at hcp
  rw [show ((1 : Nat) : Int) = 1 from rfl] at hcp
  clear hW1 hW2
  go_wp2
  clear hcp hmk
  go_loopw [8] (fun i wr => ∃ k : Nat, 1 ≤ k ∧ k ≤ c ∧ i = .int .i64 k ∧ wr.heap[w1.heap.size]? = some (.cells (fillC s k c) 9 (0, 0)) ∧ Below w1.heap.size w1 wr) (fun i _ => c - (intOf i).toNat)
  case atStart => exact ⟨1, Nat.le_refl _, h1, rfl, HQ2.out, HB2.out⟩
  case round =>
    obtain ⟨k, hk1, hk, rfl, hq, hb⟩ := hrel
    have HQ : Hid (wr.heap[w1.heap.size]? = some (.cells (fillC s k c) 9 (0, 0))) := hq
    have HB : Hid (Below w1.heap.size w1 wr) := hb
    clear hq hb HQ2 HB2 HQ1 HB1
    by_cases hlt : k < c
    · obtain ⟨m, hm⟩ : ∃ m, m = Nat.min k (c - k) := ⟨_, rfl⟩
      have hm' : m = min k (c - k) := hm
      have hcp := copy_fill wr.drew w1.heap.size k m c (c - k) s ⟨w1.heap.size, 0, none⟩ k c (c - k) HQ.out hm (by omega) (by
        intro j hj
        rw [show (⟨w1.heap.size, 0, none⟩ : Addr).add j = ⟨w1.heap.size, j, none⟩ by simp [Addr.add_lit]]
        exact cell_of_heap (w := wr) HQ.out j _ (fill_get s k c j (by omega)))
      obtain ⟨W3, hW3⟩ : ∃ W3, W3 = wr.drew.setRow w1.heap.size (fillC s (k + m) c) := ⟨_, rfl⟩
      have HQ3 : Hid (W3.heap[w1.heap.size]? = some (.cells (fillC s (k + m) c) 9 (0, 0))) := by rw [hW3]; exact setRow_heap _ _ _ _ _ _ HQ.out
      have HB3 : Hid (Below w1.heap.size w1 W3) := by
        rw [hW3]
        refine ⟨HB.out.os, HB.out.tape, HB.out.output, by have := HB.out.size; simpa using this, fun k hk => ?_⟩
        rw [setRow_other _ _ k _ (by omega)]
        exact HB.out.block k hk
      rw [← hW3] at hcp
      have hne : ¬ c = k := by omega
      have hM1 : 1 ≤ m := by omega
      have hM2 : k + m ≤ c := by omega
      clear hW3 hm hm'
      go_wp2_with fail
      refine wp_region_held_drew (S := fun _ => True) (by kernel_rfl) (by exact True.intro) (fun hHeld => ?_)
      change wpAnyH _ _ _ _ _ 10 (Array.replicate 10 false) _ _
      refine wpAnyH_take (i := 0) (oi := _) (v := _) (by simp only [List.getElem?_toArray, List.getElem?_cons_zero]; rfl) (by kernel_rfl) (by kernel_rfl) (by kernel_rfl) (by exact fun _ _ _ h => h) (Or.inl ⟨by rfl, by intro w' hSw; (try dsimp only at hSw); first | (go_simp; done) | (go_simp; with_reducible rfl)⟩) hHeld ?_
      simp only [Act.put, List.setIfInBounds_toArray, List.set_cons_zero, List.set_cons_succ]
      refine wpAnyH_take (i := 1) (oi := _) (v := _) (by simp only [List.getElem?_toArray, List.getElem?_cons_succ, List.getElem?_cons_zero]; rfl) (by kernel_rfl) (by kernel_rfl) (by kernel_rfl) (by exact fun _ _ _ h => h) (Or.inl ⟨by rfl, by intro w' hSw; (try dsimp only at hSw); first | (go_simp; done) | (go_simp; with_reducible rfl)⟩) hHeld ?_
      simp only [Act.put, List.setIfInBounds_toArray, List.set_cons_zero, List.set_cons_succ]
      refine wpAnyH_take (i := 2) (oi := _) (v := _) (by simp only [List.getElem?_toArray, List.getElem?_cons_succ, List.getElem?_cons_zero]; rfl) (by kernel_rfl) (by kernel_rfl) (by kernel_rfl) (by exact fun _ _ _ h => h) (Or.inl ⟨by rfl, by intro w' hSw; (try dsimp only at hSw); first | (go_simp; done) | (go_simp; with_reducible rfl)⟩) hHeld ?_
      simp only [Act.put, List.setIfInBounds_toArray, List.set_cons_zero, List.set_cons_succ]
      refine wpAnyH_take (i := 3) (oi := _) (v := _) (by simp only [List.getElem?_toArray, List.getElem?_cons_succ, List.getElem?_cons_zero]; rfl) (by kernel_rfl) (by kernel_rfl) (by kernel_rfl) (by exact fun _ _ _ h => h) (Or.inl ⟨by rfl, by intro w' hSw; (try dsimp only at hSw); first | (go_simp; done) | (go_simp; with_reducible rfl)⟩) hHeld ?_
      simp only [Act.put, List.setIfInBounds_toArray, List.set_cons_zero, List.set_cons_succ]
      refine wpAnyH_take (i := 4) (oi := _) (v := _) (by simp only [List.getElem?_toArray, List.getElem?_cons_succ, List.getElem?_cons_zero]; rfl) (by kernel_rfl) (by kernel_rfl) (by kernel_rfl) (by exact fun _ _ _ h => h) (Or.inl ⟨by rfl, by intro w' hSw; (try dsimp only at hSw); first | (go_simp; done) | (go_simp; with_reducible rfl)⟩) hHeld ?_
      simp only [Act.put, List.setIfInBounds_toArray, List.set_cons_zero, List.set_cons_succ]
      refine wpAnyH_take (i := 5) (oi := _) (v := _) (by simp only [List.getElem?_toArray, List.getElem?_cons_succ, List.getElem?_cons_zero]; rfl) (by kernel_rfl) (by kernel_rfl) (by kernel_rfl) (by exact fun _ _ _ h => h) (Or.inl ⟨by rfl, by intro w' hSw; (try dsimp only at hSw); first | (go_simp; done) | (go_simp; with_reducible rfl)⟩) hHeld ?_
      simp only [Act.put, List.setIfInBounds_toArray, List.set_cons_zero, List.set_cons_succ]
      refine wpAnyH_take (i := 6) (oi := _) (v := _) (by simp only [List.getElem?_toArray, List.getElem?_cons_succ, List.getElem?_cons_zero]; rfl) (by kernel_rfl) (by kernel_rfl) (by kernel_rfl) (by exact fun _ _ _ h => h) (Or.inl ⟨by rfl, by intro w' hSw; (try dsimp only at hSw); first | (go_simp; done) | (go_simp; with_reducible rfl)⟩) hHeld ?_
      simp only [Act.put, List.setIfInBounds_toArray, List.set_cons_zero, List.set_cons_succ]
      refine wpAnyH_ready (rs := [7]) (by kernel_rfl) (by simp) ?_
      refine AllReadyH.cons (o := _) (by simp only [List.getElem?_toArray, List.getElem?_cons_succ, List.getElem?_cons_zero]; rfl) (fun K hK => ?_) AllReadyH.nil
      refine wpH_copy (by rfl) rfl rfl rfl hcp ?_
      refine hK.out _ _ (True.intro) (fun hHeld => ?_)
      clear hK K
      simp only [Act.put, List.setIfInBounds_toArray, List.set_cons_zero, List.set_cons_succ]
      refine wpAnyH_take (i := 8) (oi := _) (v := _) (by simp only [List.getElem?_toArray, List.getElem?_cons_succ, List.getElem?_cons_zero]; rfl) (by kernel_rfl) (by kernel_rfl) (by kernel_rfl) (by exact fun _ _ _ h => h) (Or.inl ⟨by rfl, by intro w' hSw; (try dsimp only at hSw); first | (go_simp; done) | (go_simp; with_reducible rfl)⟩) hHeld ?_
      simp only [Act.put, List.setIfInBounds_toArray, List.set_cons_zero, List.set_cons_succ]
      refine wpAnyH_take (i := 9) (oi := _) (v := _) (by simp only [List.getElem?_toArray, List.getElem?_cons_succ, List.getElem?_cons_zero]; rfl) (by kernel_rfl) (by kernel_rfl) (by kernel_rfl) (by exact fun _ _ _ h => h) (Or.inl ⟨by rfl, by intro w' hSw; (try dsimp only at hSw); first | (go_simp; done) | (go_simp; with_reducible rfl)⟩) hHeld ?_
      simp only [Act.put, List.setIfInBounds_toArray, List.set_cons_zero, List.set_cons_succ]
      refine wpAnyH_done (by kernel_rfl) ?_ _
      clear hHeld hcp
      have hwr : IntKind.i64.wrap ((k : Int) + (m : Int)) = (k : Int) + (m : Int) := by rw [IntKind.wrap_i64]; omega
      rw [hwr]
      clear hwr
      go_wp2
      go_roundw
      case rel => exact ⟨k + m, by omega, hM2, by go_num, HQ3.out, HB3.out⟩
      case measure => simp [intOf]; omega
    · obtain rfl : k = c := by omega
      go_wp2
      go_ret
      exact ⟨_, rfl, HQ.out, Nat.le_refl _, HB.out⟩

end Go.Proofs.Ytkfphmhnaelflaa.Nv
