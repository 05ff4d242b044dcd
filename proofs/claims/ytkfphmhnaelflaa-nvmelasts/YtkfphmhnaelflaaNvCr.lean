/-
  The power fails. No condition.
-/
import Derived.Test.YtkfphmhnaelflaaNvKept
namespace Go.Proofs.Ytkfphmhnaelflaa.Nv
open Go.ChangeShapes Go.WideShapes Go.ChangeAt Go.RowKit Go.Proofs.Fa

variable {w : World} {S : Nat → Prop} {b : Nat} {d : Dev} {vl vc vw vk : Value}

/-- The cells of a number of a row. -/
theorem row_int {w : World} {B g n cap : Nat} {l : List Int} (h : w.ownsRow B 3 1 (.slice (some ⟨g, 0, none⟩) n cap) l.length (icells l)) (k : Nat) (hk : k < l.length) : w.cell? ⟨g, k, none⟩ = some (.int .i64 l[k]) := by
  have := h.cells (g := g) rfl k (.int .i64 l[k]) (by simp [icells, hk])
  simpa [Addr.add_lit] using this

set_option maxRecDepth 100000
set_option maxHeartbeats 4000000

theorem kept_any (v kv : Value) (l : List Cmd) (K : List Int) (hr : w.ownsRow 0 37 4 v l.length (ccells l)) (hk : w.ownsRow 0 3 1 kv K.length (icells K)) (hn : l.length ≤ 2000000) (hkn : K.length ≤ 1000000) :
    Calls Try.prog 29 #[v, kv] w fun e w' => ∃ v', e = .returned v' ∧ w'.ownsRow w.heap.size 37 4 v' (keptK K l).length (ccells (keptK K l)) ∧ Below w.heap.size w w' := by
  obtain ⟨i0, hi, hz0, hz1, hz2⟩ := info_parts info_cmd4
  obtain ⟨a, cap, rfl, _⟩ := row_slice hr
  obtain ⟨ak, capk, rfl, _⟩ := row_slice hk
  have HR : Hid (w.ownsRow 0 37 4 (.slice a l.length cap) l.length (ccells l)) := hr
  have HK : Hid (w.ownsRow 0 3 1 (.slice ak K.length capk) K.length (icells K)) := hk
  clear hr hk
  by_cases h0 : K.length = 0
  · have e0 : keptK K l = [] := if_pos h0
    rw [e0]
    have h0' : (K.length : Int) = 0 := by omega
    go_enter Try.func29, Try.ntmps29
    go_wp2
    go_ret
    exact ⟨_, rfl, World.ownsRow_nil _ _ _ _, Below.refl _ _⟩
  · have e0 : keptK K l = keptF K 0 l := if_neg h0
    rw [e0]
    have h1 : 0 < K.length := by omega
    have h2 : ((K.length : Int) == 0) = false := beq_eq_false_iff_ne.2 (by omega)
    obtain ⟨gk, ck, hek⟩ := row_some HK.out h1
    cases hek
    clear h0 e0
    go_enter Try.func29, Try.ntmps29
    go_wp2
    go_loopw [5, 13] (fun v i wr => ∃ k : Nat, k ≤ l.length ∧ i = .int .i64 k ∧ wr.ownsRow w.heap.size 37 4 v (keptF K 0 (l.take k)).length (ccells (keptF K 0 (l.take k))) ∧ Below w.heap.size w wr) (fun _ i _ => l.length - (intOf i).toNat)
    case atStart => exact ⟨0, Nat.zero_le _, rfl, World.ownsRow_nil _ _ _ _, Below.refl _ _⟩
    case round =>
      obtain ⟨k, hk, rfl, hown, hb⟩ := hrel
      have HO : Hid (wr.ownsRow w.heap.size 37 4 _ (keptF K 0 (l.take k)).length (ccells (keptF K 0 (l.take k)))) := hown
      have HB : Hid (Below w.heap.size w wr) := hb
      clear hown hb
      by_cases hlt : k < l.length
      · have hRk := row_below HR.out HB.out
        obtain ⟨g, cap', he⟩ := row_some hRk (by omega)
        cases he
        obtain ⟨e0, e1, e2, e3⟩ := row_cmd hRk k hlt
        have hKk := row_below HK.out HB.out
        have hmod : k % K.length < K.length := Nat.mod_lt _ h1
        have x0 := row_int hKk (k % K.length) hmod
        have hll : (keptF K 0 (l.take k)).length ≤ 2000000 := Nat.le_trans (keptF_length _ _ _) (by rw [List.length_take]; omega)
        have HST : Hid (keptF K 0 (l.take (k + 1)) = if K[k % K.length] = 0 then keptF K 0 (l.take k) else keptF K 0 (l.take k) ++ [l[k]]) := by
          show _ = _
          rw [List.take_succ_eq_append_getElem hlt, keptF_append, List.length_take, Nat.min_eq_left hk, Nat.zero_add]
          simp only [keptF, List.getElem?_eq_getElem hmod, Option.getD_some]
          split <;> simp
        have hglt : gk < wr.heap.size := lt_of_cell x0
        have x1 : ∀ o : Obj, (wr.alloc o).cell? ⟨gk, k % K.length, none⟩ = some (.int .i64 K[k % K.length]) := fun o => (World.cell?_of_block (Below.heap_alloc _ _ _ hglt)).trans x0
        obtain ⟨cc, hck⟩ : ∃ cc, l[k] = cc := ⟨_, rfl⟩
        obtain ⟨xk, xs, xd, xt⟩ := cc
        rw [hck] at e0 e1 e2 e3 HST
        clear hRk hKk hck
        generalize K[k % K.length] = kk at *
        have ht : (k : Int).tmod (K.length : Int) = ((k % K.length : Nat) : Int) := by
          rw [Int.tmod_eq_emod_of_nonneg (by omega)]; exact (Int.natCast_emod k K.length).symm
        by_cases hkk : kk = 0
        · subst hkk
          rw [if_pos rfl] at HST
          go_wp2
          go_roundw
          case rel => exact ⟨k + 1, by omega, by go_num, by rw [HST.out]; exact HO.out.alloc _, HB.out.alloc HB.out.size _⟩
          case measure => simp [intOf]; omega
        · rw [if_neg hkk] at HST
          have hkb : (kk != 0) = true := by simpa using hkk
          have HCN : Hid (∀ j u, [.int .i64 xk, .int .i64 xs, .string xd, .int .i64 xt][j]? = some u → ((wr.alloc (Obj.cells #[.int .i64 xk, .int .i64 xs, .string xd, .int .i64 xt] 37)).alloc (Obj.cells #[.int .i64 xk, .int .i64 xs, .string xd, .int .i64 xt] 37)).cell? ((⟨wr.heap.size + 1, 0, none⟩ : Addr).add j) = some u) := by
            intro j u hu
            have := cells_new4 (wr.alloc (Obj.cells #[.int .i64 xk, .int .i64 xs, .string xd, .int .i64 xt] 37)) _ _ _ _ 37 j u hu
            rw [World.size_alloc] at this
            exact this
          clear hkk
          generalize hgl : keptF K 0 (l.take k) = ll at *
          go_wp2_with (at_builtin; refine wpList_append_near _ rfl _ _ 44 rfl w.heap.size 37 i0 _ 4 40 Try.underlying44 hi hz0 hz1 hz2 rfl (by decide) _ _ _ rfl ((HO.out.alloc _).alloc _) ⟨wr.heap.size + 1, 0, none⟩ 1 1 [.int .i64 xk, .int .i64 xs, .string xd, .int .i64 xt] rfl rfl HCN.out (by intro u hu; simp only [List.mem_cons, List.not_mem_nil, or_false] at hu; rcases hu with rfl | rfl | rfl | rfl <;> rfl) (by unfold maxLen; omega) (by omega) (by have := HB.out.size; simp; omega) ?_; intro v' w3 hown' hgrow hnear)
          have HG : Hid (((wr.alloc (Obj.cells #[.int .i64 xk, .int .i64 xs, .string xd, .int .i64 xt] 37)).alloc (Obj.cells #[.int .i64 xk, .int .i64 xs, .string xd, .int .i64 xt] 37)).grownBy w3 _) := hgrow
          have HO3 : Hid (w3.ownsRow w.heap.size 37 4 v' (ll.length + 1) (ccells ll ++ [.int .i64 xk, .int .i64 xs, .string xd, .int .i64 xt])) := hown'
          clear hgrow hown' hnear
          go_roundw
          case rel =>
            refine ⟨k + 1, by omega, by go_num, ?_, ?_⟩
            · rw [HST.out, ccells_append, List.length_append]; exact HO3.out
            · exact ((HB.out.alloc HB.out.size _).alloc (by have := HB.out.size; simp; omega) _).grown HG.out (by have := HB.out.size; simp; omega) (fun j e => row_block_ge HO.out j e)
          case measure => simp [intOf]; omega
      · obtain rfl : k = l.length := by omega
        rw [List.take_length] at HO
        go_wp2
        go_ret
        exact ⟨_, rfl, HO.out, HB.out⟩

end Go.Proofs.Ytkfphmhnaelflaa.Nv
