/-
  Rows of commands: a copy; those whose data may be kept when the power fails, and those that are. No condition.
-/
import Derived.Test.YtkfphmhnaelflaaNvSet
import Derived.Lib.BufferMore
namespace Go.Proofs.Ytkfphmhnaelflaa.Nv
open Go.ChangeShapes Go.WideShapes Go.ChangeAt Go.RowKit Go.Proofs.Fa

theorem info_cmd4 : (Try.prog.info? 37).map (fun i => (i.zero, i.size, i.bytes)) = some (some (.agg #[.int .i64 0, .int .i64 0, .string ⟨#[]⟩, .int .i64 0]), 4, 40) := by kernel_rfl

variable {w : World} {S : Nat → Prop} {b : Nat} {d : Dev} {vl vc vw vk : Value}

theorem cells_new4 (w : World) (v0 v1 v2 v3 : Value) (t : TypeId) (j : Nat) (u : Value) (h : [v0, v1, v2, v3][j]? = some u) : (w.alloc (Obj.cells #[v0, v1, v2, v3] t)).cell? ((⟨w.heap.size, 0, none⟩ : Addr).add j) = some u := by
  have e : (⟨w.heap.size, 0, none⟩ : Addr).add j = ⟨w.heap.size, j, none⟩ := by simp [Addr.add_lit]
  rw [e]
  exact cell_of_heap (heap_alloc_new w _) j u (by simpa using h)

/-- A row is as it was where nothing old was turned. -/
theorem row_below {w w' : World} {B e size n : Nat} {v : Value} {xs : List Value} (h : w.ownsRow B e size v n xs) (hb : Below w.heap.size w w') : w'.ownsRow B e size v n xs :=
  row_turn (S := fun _ => False) h (Turn.of_below hb) (fun _ _ h => h)
theorem row_block_ge {w : World} {B e size n : Nat} {v : Value} {xs : List Value} (h : w.ownsRow B e size v n xs) (k : Nat) (hk : v.ownBlock = some k) : B ≤ k := by
  rcases h.2 with ⟨rfl, _⟩ | ⟨g, cap, cur, rfl, hb, _⟩
  · cases hk
  · cases hk; exact hb
theorem row_base {w : World} {B B' e size n : Nat} {v : Value} {xs : List Value} (h : w.ownsRow B e size v n xs) (hB : B' ≤ B) : w.ownsRow B' e size v n xs := by
  refine ⟨h.1, ?_⟩
  rcases h.2 with hn | ⟨g, cap, cur, rfl, hb, rest⟩
  · exact .inl hn
  · exact .inr ⟨g, cap, cur, rfl, Nat.le_trans hB hb, rest⟩

set_option maxRecDepth 100000
set_option maxHeartbeats 4000000

theorem clone_any (v : Value) (l : List Cmd) (hr : w.ownsRow 0 37 4 v l.length (ccells l)) (hn : l.length ≤ 2000000) :
    Calls Try.prog 27 #[v] w fun e w' => ∃ v', e = .returned v' ∧ w'.ownsRow w.heap.size 37 4 v' l.length (ccells l) ∧ Below w.heap.size w w' := by
  obtain ⟨i0, hi, hz0, hz1, hz2⟩ := info_parts info_cmd4
  rcases hr.2 with ⟨rfl, h0⟩ | ⟨g, cap, cur, rfl, _⟩
  · have hl : l = [] := List.eq_nil_of_length_eq_zero h0
    subst hl
    have he := Lib.run_eql_slice_nil_nil (P := Try.prog) w 0 0 Try.underlying44
    go_enter Try.func27, Try.ntmps27
    go_wp2
    go_ret
    exact ⟨_, rfl, World.ownsRow_nil _ _ _ _, Below.refl _ _⟩
  · have hsrc := hr.cells (g := g) rfl
    have HR : Hid (w.ownsRow 0 37 4 (.slice (some ⟨g, 0, none⟩) l.length cap) l.length (ccells l)) := hr
    have hglt : g < w.heap.size := row_lt hr g rfl
    have he := Lib.run_eql_slice_some_nil (P := Try.prog) w ⟨g, 0, none⟩ l.length cap Try.underlying44
    clear hr
    go_enter Try.func27, Try.ntmps27
    go_wp2_with (at_builtin; refine wpList_append_near _ rfl _ _ 44 rfl w.heap.size 37 i0 _ 4 40 Try.underlying44 hi hz0 hz1 hz2 rfl (by decide) _ 0 [] rfl (World.ownsRow_lit w #[] 0 (Nat.le_refl _) (by decide) rfl) ⟨g, 0, none⟩ l.length cap (ccells l) rfl (ccells_length l) (fun j u hu => (World.cell?_of_block (Below.heap_alloc _ _ _ (by simpa [Addr.add_lit] using hglt))).trans (hsrc j u hu)) (ccells_one l) (by unfold maxLen; omega) (by omega) (by simp) ?_; intro v' w1 hown' hgrow hnear)
    go_ret
    refine ⟨_, rfl, ?_, ?_⟩
    · rw [Nat.zero_add, List.nil_append] at hown'; exact hown'
    · exact ((Below.refl _ w).alloc (Nat.le_refl _) _).grown hgrow (by simp) (fun k e => by cases e; exact Nat.le_refl _)

theorem unsure_any (h : DevIn w S b d vl vc vw vk) (hc : d.cache.length ≤ 1000000) (hq : d.waiting.length ≤ 1000) :
    Calls Try.prog 30 #[.pointer (some ⟨b, 0, none⟩)] w fun e w' => ∃ v', e = .returned v' ∧ w'.ownsRow w.heap.size 37 4 v' (unsureF d).length (ccells (unsureF d)) ∧ Below w.heap.size w w' := by
  obtain ⟨i0, hi, hz0, hz1, hz2⟩ := info_parts info_cmd4
  have HD : Hid (DevIn w S b d vl vc vw vk) := h
  have m2 : w.cell? ⟨b, 2, none⟩ = some vc := cell_of_heap h.main 2 _ rfl
  obtain ⟨ac, capc, hvc, _⟩ := row_slice h.cac
  obtain ⟨aw, capw, hvw, hwm⟩ := row_slice h.wai
  clear h
  subst hvc
  go_enter Try.func30, Try.ntmps30
  go_wp2_with fail
  refine (clone_any _ d.cache HD.out.cac (by omega)).mono ?_
  rintro e w1 ⟨v1, rfl, ho1, hb1⟩
  have HD1 : Hid (DevIn w1 S b d (vl) (.slice ac d.cache.length capc) vw vk) := HD.out.below hb1
  have HB1 : Hid (Below w.heap.size w w1) := hb1
  have HO1 : Hid (w1.ownsRow w.heap.size 37 4 v1 d.cache.length (ccells d.cache)) := ho1
  have m3 : w1.cell? ⟨b, 3, none⟩ = some (.slice aw d.waiting.length capw) := by rw [← hvw]; exact cell_of_heap HD1.out.main 3 _ rfl
  clear hb1 ho1 m2
  go_wp2
  go_loopw [3, 16] (fun v i wr => ∃ k : Nat, k ≤ d.waiting.length ∧ i = .int .i64 k ∧ wr.ownsRow w.heap.size 37 4 v (d.cache ++ (d.waiting.take k).filter isW).length (ccells (d.cache ++ (d.waiting.take k).filter isW)) ∧ Below w.heap.size w wr) (fun _ i _ => d.waiting.length - (intOf i).toNat)
  case atStart => exact ⟨0, Nat.zero_le _, rfl, by simpa using HO1.out, HB1.out⟩
  case round =>
    obtain ⟨k, hk, rfl, hown, hb⟩ := hrel
    have HO : Hid (wr.ownsRow w.heap.size 37 4 _ (d.cache ++ (d.waiting.take k).filter isW).length (ccells (d.cache ++ (d.waiting.take k).filter isW))) := hown
    have HB : Hid (Below w.heap.size w wr) := hb
    clear hown hb m3
    by_cases hlt : k < d.waiting.length
    · have hRk : wr.ownsRow 0 37 4 vw d.waiting.length (ccells d.waiting) := row_below HD.out.wai HB.out
      obtain ⟨g, cap', he⟩ := row_some hRk (by omega)
      rw [he] at hvw
      cases hvw
      subst he
      obtain ⟨e0, e1, e2, e3⟩ := row_cmd hRk k hlt
      have hfl : ((d.waiting.take k).filter isW).length ≤ 1000 := Nat.le_trans (List.length_filter_le _ _) (by rw [List.length_take]; omega)
      have HST : Hid ((d.waiting.take (k + 1)).filter isW = if isW d.waiting[k] = true then (d.waiting.take k).filter isW ++ [d.waiting[k]] else (d.waiting.take k).filter isW) := by
        show _ = _
        rw [List.take_succ_eq_append_getElem hlt, List.filter_append]
        by_cases hh : isW d.waiting[k] = true
        · simp [hh]
        · simp [hh]
      clear hRk
      obtain ⟨cc, hck⟩ : ∃ cc, d.waiting[k] = cc := ⟨_, rfl⟩
      obtain ⟨xk, xs, xd, xt⟩ := cc
      rw [hck] at e0 e1 e2 e3 HST
      go_wp2_with fail
      refine (isWrite_any ⟨xk, xs, xd, xt⟩ _).mono ?_
      rintro e w2 ⟨rfl, hb2⟩
      obtain ⟨wa, hwa⟩ : ∃ wa, wa = wr.alloc (Obj.cells #[.int .i64 xk, .int .i64 xs, .string xd, .int .i64 xt] 37) := ⟨_, rfl⟩
      rw [← hwa] at hb2
      have HXa : w2.heap[wr.heap.size]? = some (.cells #[.int .i64 xk, .int .i64 xs, .string xd, .int .i64 xt] 37 (0, 0)) := by
        rw [hb2.block _ (by rw [hwa]; simp), hwa]; exact heap_alloc_new _ _
      obtain ⟨a0, a1, a2, a3, _⟩ := agg4 HXa
      have HBa : Hid (Below wr.heap.size wr w2) := by
        have : Below wr.heap.size wr wa := by rw [hwa]; exact (Below.refl _ _).alloc (Nat.le_refl _) _
        exact this.trans (hb2.mono this.size)
      have HO2 : Hid (w2.ownsRow w.heap.size 37 4 _ (d.cache ++ (d.waiting.take k).filter isW).length (ccells (d.cache ++ (d.waiting.take k).filter isW))) := row_below HO.out HBa.out
      have HB2 : Hid (Below w.heap.size w w2) := HB.out.trans (HBa.out.mono HB.out.size)
      clear hb2 HXa hwa wa
      have hll : (d.cache ++ (d.waiting.take k).filter isW).length ≤ 1001000 := by rw [List.length_append]; omega
      cases hw : isW ⟨xk, xs, xd, xt⟩
      · rw [hw] at HST
        go_wp2
        go_roundw
        case rel => exact ⟨k + 1, by omega, by go_num, by rw [HST.out]; exact HO2.out, HB2.out⟩
        case measure => simp [intOf]; omega
      · rw [hw] at HST
        generalize hgl : d.cache ++ (d.waiting.take k).filter isW = ll at *
        go_wp2_with (at_builtin; refine wpList_append_near _ rfl _ _ 44 rfl w.heap.size 37 i0 _ 4 40 Try.underlying44 hi hz0 hz1 hz2 rfl (by decide) _ _ _ rfl (HO2.out.alloc _) ⟨w2.heap.size, 0, none⟩ 1 1 [.int .i64 xk, .int .i64 xs, .string xd, .int .i64 xt] rfl rfl (cells_new4 _ _ _ _ _ _) (by intro u hu; simp only [List.mem_cons, List.not_mem_nil, or_false] at hu; rcases hu with rfl | rfl | rfl | rfl <;> rfl) (by unfold maxLen; omega) (by omega) (by have := HB2.out.size; simp; omega) ?_; intro v' w3 hown' hgrow hnear)
        have HG : Hid ((w2.alloc (Obj.cells #[.int .i64 xk, .int .i64 xs, .string xd, .int .i64 xt] 37)).grownBy w3 _) := hgrow
        have HO3 : Hid (w3.ownsRow w.heap.size 37 4 v' (ll.length + 1) (ccells ll ++ [.int .i64 xk, .int .i64 xs, .string xd, .int .i64 xt])) := hown'
        clear hgrow hown' hnear
        go_roundw
        case rel =>
          refine ⟨k + 1, by omega, by go_num, ?_, ?_⟩
          · rw [HST.out, if_pos trivial, ← List.append_assoc, hgl, ccells_append, List.length_append]; exact HO3.out
          · exact (HB2.out.alloc HB2.out.size _).grown HG.out (by have := HB2.out.size; simp; omega) (fun j e => row_block_ge HO2.out j e)
        case measure => simp [intOf]; omega
    · obtain rfl : k = d.waiting.length := by omega
      rw [List.take_length] at HO
      go_wp2
      go_ret
      exact ⟨_, rfl, HO.out, HB.out⟩

end Go.Proofs.Ytkfphmhnaelflaa.Nv
