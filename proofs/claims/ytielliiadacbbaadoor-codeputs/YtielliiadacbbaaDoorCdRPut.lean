/-
  The document's Put of any program. No condition.
-/
import Derived.Test.YtielliiadacbbaaDoorCdRr
import Derived.Test.YtielliiadacbbaaDoorCdLong
import Derived.Test.YtielliiadacbbaaDoorCdQ
import Derived.Deep.RegionHeld3
import Derived.RegionTactic
import Derived.BigRegion
namespace Go.Proofs.YtielliiadacbbaaDoor.Cd
open Go.ChangeShapes Go.WideShapes Go.ChangeAt Go.RowKit
open Go.Proofs.YtielliiadacbbaaDoor.Nv (lt_of_heap lt_of_cell cell_of_heap free_of_heap)
open Go.Proofs.YtielliiadacbbaaDoor.Le (putF numF errV refput_any bytesOf byteAt putF_in)

set_option maxRecDepth 100000
set_option maxHeartbeats 2000000

theorem conv_four (W : World) (b : Nat) (a0 a1 a2 a3 : Int) (h : W.heap[b]? = some (.cells #[.int .u8 a0, .int .u8 a1, .int .u8 a2, .int .u8 a3] 5 (0, 0))) :
    Sem.run Tryd.prog (convert 49 9 (Value.slice (some ⟨b, 0, none⟩) 4 4)) W = .ok (.string (strOfNums [a0, a1, a2, a3])) W :=
  run_convert_bytes_arg (P := Tryd.prog) _ 49 5 Tryd.underlying49 Tryd.underlying5 b 0 4 4 [a0, a1, a2, a3] rfl (by
    intro i hi
    match i, hi with
    | 0, _ => exact cell_of_heap h 0 _ rfl
    | 1, _ => exact cell_of_heap h 1 _ rfl
    | 2, _ => exact cell_of_heap h 2 _ rfl
    | 3, _ => exact cell_of_heap h 3 _ rfl) 9 Tryd.underlying9
theorem putF_one (n : Int) (h0 : 0 ≤ n) (h1 : n < 256) : (putF n (1 : Nat)).data.toList = [UInt8.ofNat n.toNat] := by
  obtain ⟨e, _, _⟩ := putF_in (x := n) (k := (1 : Nat)) (by decide) (by decide) h0 (by show n < 256; exact h1)
  have h2 : n % 256 = n := by omega
  rw [e]
  simp [bytesOf, byteAt, strOfNums, h2]
theorem ins_four {x : In4} (hp : RightP x) : (strOfNums [x.op, x.d, x.s, 0]).data.toList ++ (putF (x.imm + 2147483648) 4).data.toList = insB x := by
  show _ = (putF x.op (1 : Nat)).data.toList ++ (putF x.d (1 : Nat)).data.toList ++ (putF x.s (1 : Nat)).data.toList ++ (putF 0 (1 : Nat)).data.toList ++ (putF (x.imm + 2147483648) (4 : Nat)).data.toList
  have h1 := hp.1
  have h2 := hp.2.1
  have h3 := hp.2.2.1
  rw [putF_one x.op (by omega) (by omega), putF_one x.d (by omega) (by omega), putF_one x.s (by omega) (by omega), putF_one 0 (by decide) (by decide)]
  rfl

theorem rput_any (v : Value) (l : List In4) (w : World) (h : InsAt w v l) :
    Calls Tryd.prog 10 #[v] w fun r w' => r = .returned (.tuple #[.string (putS l), .int .i64 (putE l)]) ∧ Below w.heap.size w w' := by
  have HI : Hid (InsAt w v l) := h
  obtain ⟨a, cap, rfl⟩ := h.slice
  clear h
  obtain ⟨n, hn⟩ : ∃ n, l.length = n := ⟨_, rfl⟩
  have HLN : Hid (l.length = n) := hn
  rw [hn]
  clear hn
  by_cases hl : 128 < n
  · have he : putE l = 10 := if_pos (by rw [HLN.out]; exact hl)
    have HE : Hid (putE l = 10 ∧ putS l = ByteArray.empty) := ⟨he, by unfold putS; rw [he]; rfl⟩
    clear he
    go_enter Tryd.func10, Tryd.ntmps10
    go_wp2
    go_ret2
    exact ⟨by rw [HE.out.1, HE.out.2]; rfl, Below.refl _ _⟩
  go_enter Tryd.func10, Tryd.ntmps10
  go_wp2_with fail
  go_loopw [4, 5] (fun tv iv wr => ∃ (k : Nat) (T : ByteArray), k ≤ n ∧ iv = .int .i64 k ∧ tv = .string T ∧ T = ⟨(progB (l.take k)).toArray⟩ ∧ (∀ x ∈ l.take k, RightP x) ∧ Below w.heap.size w wr) (fun _ iv _ => n - (intOf iv).toNat)
  case atStart => exact ⟨0, _, Nat.zero_le _, rfl, rfl, rfl, (fun x (hx : x ∈ l.take 0) => by cases hx), Below.refl _ _⟩
  case round =>
    obtain ⟨k, T, hk, rfl, rfl, hT, hR, hB⟩ := hrel
    have HT : Hid (T = ⟨(progB (l.take k)).toArray⟩) := hT
    have HB : Hid (Below w.heap.size w wr) := hB
    have HR : Hid (∀ x ∈ l.take k, RightP x) := hR
    clear hT hB hR
    by_cases hlt : k < n
    · have hkl : k < l.length := by rw [HLN.out]; exact hlt
      obtain ⟨g, off, cap', he, h1, h2, h3, h4⟩ : ∃ g off cap', Value.slice a n cap = .slice (some ⟨g, off, none⟩) n cap' ∧ n ≤ cap' ∧ cap' ≤ 9223372036854775807 ∧ g < w.heap.size ∧ ∀ i (h : i < l.length), w.cell? ⟨g, off + i * 4, none⟩ = some (.int .i64 l[i].op) ∧ w.cell? ⟨g, off + i * 4 + 1, none⟩ = some (.int .i64 l[i].d) ∧ w.cell? ⟨g, off + i * 4 + 2, none⟩ = some (.int .i64 l[i].s) ∧ w.cell? ⟨g, off + i * 4 + 3, none⟩ = some (.int .i64 l[i].imm) := by
        rcases HI.out with ⟨_, h0⟩ | ⟨g, off, cap', he, h1, h2, h3, h4⟩
        · rw [h0] at hkl
          cases hkl
        · rw [HLN.out] at he h1
          exact ⟨g, off, cap', he, h1, h2, h3, h4⟩
      cases he
      obtain ⟨e0, e1, e2, e3⟩ := h4 k hkl
      have HSU : Hid (progB (l.take (k + 1)) = progB (l.take k) ++ insB l[k]) := progB_succ l k hkl
      have HTS : Hid (l.take (k + 1) = l.take k ++ [l[k]]) := List.take_succ_eq_append_getElem hkl
      have HME : Hid (l[k] ∈ l) := List.getElem_mem hkl
      have HZT : Hid (T.size = 8 * k) := by
        show _ = _
        rw [HT.out]
        show (progB (l.take k)).toArray.size = _
        rw [List.size_toArray, progB_length HR.out, List.length_take, HLN.out]
        omega
      clear h4
      generalize l[k] = x at *
      have HSL : Hid (∀ W, Below w.heap.size w W → W.cell? ⟨g, off + k * 4, none⟩ = some (.int .i64 x.op) ∧ W.cell? ⟨g, off + k * 4 + 1, none⟩ = some (.int .i64 x.d) ∧ W.cell? ⟨g, off + k * 4 + 2, none⟩ = some (.int .i64 x.s) ∧ W.cell? ⟨g, off + k * 4 + 3, none⟩ = some (.int .i64 x.imm)) := fun W hW =>
        ⟨(World.cell?_of_block (a := ⟨g, off + k * 4, none⟩) (hW.block g h3)).trans e0, (World.cell?_of_block (a := ⟨g, off + k * 4 + 1, none⟩) (hW.block g h3)).trans e1, (World.cell?_of_block (a := ⟨g, off + k * 4 + 2, none⟩) (hW.block g h3)).trans e2, (World.cell?_of_block (a := ⟨g, off + k * 4 + 3, none⟩) (hW.block g h3)).trans e3⟩
      clear e0 e1 e2 e3
      obtain ⟨a0, a1, a2, a3⟩ := HSL.out wr HB.out
      have HRI : Hid (∀ w, _) := fun w => refr_any x w
      go_wp2_with fail
      refine (HRI.out _).mono ?_
      rintro r w2 ⟨rfl, hb2⟩
      have HB2 : Hid (Below w.heap.size w w2) := HB.out.trans (hb2.mono HB.out.size)
      clear hb2 HB a0 a1 a2 a3
      by_cases hp : RightP x
      · rw [decide_eq_true hp]
        have hpi := hp.imm
        have hwi : IntKind.i64.wrap (x.imm + 2147483648) = x.imm + 2147483648 := IntWalk.i64_in _ (by omega)
        have hwo : IntKind.u8.wrap x.op = x.op := IntWalk.u8_in _ (by have := hp.1; omega)
        have hwd : IntKind.u8.wrap x.d = x.d := IntWalk.u8_in _ (by have := hp.2.1; omega)
        have hws : IntKind.u8.wrap x.s = x.s := IntWalk.u8_in _ (by have := hp.2.2.1; omega)
        have hz0 : T.size = 8 * k := HZT.out
        have hz4 : (strOfNums [x.op, x.d, x.s, 0]).size = 4 := by simp [strOfNums_size]
        have hzp : (putF (x.imm + 2147483648) 4).size = 4 := by
          have := (putF_in (x := x.imm + 2147483648) (k := 4) (by decide) (by decide) (by omega) (by show x.imm + 2147483648 < 4294967296; omega)).2.1
          exact this
        have HT2 : Hid (T ++ (strOfNums [x.op, x.d, x.s, 0] ++ putF (x.imm + 2147483648) 4) = ⟨(progB (l.take (k + 1))).toArray⟩) := by
          show _ = _
          apply ext_bytes
          rw [ByteArray.data_append, ByteArray.data_append, Array.toList_append, Array.toList_append, ins_four hp, HT.out, HSU.out]
        have HR2 : Hid (∀ y ∈ l.take (k + 1), RightP y) := fun y hy => by
          rw [HTS.out] at hy
          rcases List.mem_append.1 hy with hy | hy
          · exact HR.out y hy
          · rw [List.mem_singleton.1 hy]; exact hp
        have hbig : ¬ 9223372036854775807 < 8 * k + 8 := by omega
        clear hp
        obtain ⟨a0, a1, a2, a3⟩ := HSL.out w2 HB2.out
        go_wp2_with fail
        refine wp_region_held_drew (S := fun W => W.cell? ⟨g, off + k * 4, none⟩ = some (.int .i64 x.op) ∧ W.cell? ⟨g, off + k * 4 + 1, none⟩ = some (.int .i64 x.d) ∧ W.cell? ⟨g, off + k * 4 + 2, none⟩ = some (.int .i64 x.s) ∧ W.cell? ⟨g, off + k * 4 + 3, none⟩ = some (.int .i64 x.imm)) (by kernel_rfl) (by exact ⟨a0, a1, a2, a3⟩) (fun hHeld => ?_)
        change wpAnyH _ _ _ _ _ 31 (Array.replicate 31 false) _ _
        obtain ⟨W0, hW0⟩ : ∃ W0, W0 = w2.drew := ⟨_, rfl⟩
        have BW0 : Hid (Below w.heap.size w W0) := by rw [hW0]; exact HB2.out.drew
        rw [← hW0] at hHeld ⊢
        clear hW0 a0 a1 a2 a3
        refine wpAnyH_take (i := 0) (oi := _) (v := _) (by simp only [List.getElem?_toArray, List.getElem?_cons_zero]; rfl) (by kernel_rfl) (by kernel_rfl) (by kernel_rfl) (by exact fun _ _ _ h => h) (Or.inl ⟨by rfl, by intro w' hSw; (try dsimp only at hSw); first | (go_simp; done) | (go_simp; with_reducible rfl)⟩) hHeld ?_
        simp only [Act.put, List.setIfInBounds_toArray, List.set_cons_zero, List.set_cons_succ]
        refine wpAnyH_take (i := 1) (oi := _) (v := _) (by simp only [List.getElem?_toArray, List.getElem?_cons_succ, List.getElem?_cons_zero]; rfl) (by kernel_rfl) (by kernel_rfl) (by kernel_rfl) (by exact fun _ _ _ h => h) (Or.inl ⟨by rfl, by intro w' hSw; (try dsimp only at hSw); first | (go_simp; done) | (go_simp; with_reducible rfl)⟩) hHeld ?_
        simp only [Act.put, List.setIfInBounds_toArray, List.set_cons_zero, List.set_cons_succ]
        refine wpAnyH_take (i := 2) (oi := _) (v := _) (by simp only [List.getElem?_toArray, List.getElem?_cons_succ, List.getElem?_cons_zero]; rfl) (by kernel_rfl) (by kernel_rfl) (by kernel_rfl) (by exact fun _ _ _ h => h) (Or.inl ⟨by rfl, by intro w' hSw; (try dsimp only at hSw); first | (go_simp; done) | (go_simp; with_reducible rfl)⟩) hHeld ?_
        simp only [Act.put, List.setIfInBounds_toArray, List.set_cons_zero, List.set_cons_succ]
        refine wpAnyH_take (i := 3) (oi := _) (v := _) (by simp only [List.getElem?_toArray, List.getElem?_cons_succ, List.getElem?_cons_zero]; rfl) (by kernel_rfl) (by kernel_rfl) (by kernel_rfl) (by exact fun _ _ _ h => h) (Or.inl ⟨by rfl, by intro w' hSw; (try dsimp only at hSw); first | (go_simp; done) | (go_simp; with_reducible rfl)⟩) hHeld ?_
        simp only [Act.put, List.setIfInBounds_toArray, List.set_cons_zero, List.set_cons_succ]
        refine wpAnyH_take (i := 4) (oi := _) (v := _) (by simp only [List.getElem?_toArray, List.getElem?_cons_succ, List.getElem?_cons_zero]; rfl) (by kernel_rfl) (by kernel_rfl) (by kernel_rfl) (by exact fun _ _ _ h => h) (Or.inl ⟨by rfl, by intro w' hSw; (try dsimp only at hSw); first | (go_simp; done) | (go_simp; with_reducible rfl)⟩) hHeld ?_
        simp only [Act.put, List.setIfInBounds_toArray, List.set_cons_zero, List.set_cons_succ]
        refine wpAnyH_take (i := 5) (oi := _) (v := _) (by simp only [List.getElem?_toArray, List.getElem?_cons_succ, List.getElem?_cons_zero]; rfl) (by kernel_rfl) (by kernel_rfl) (by kernel_rfl) (by exact fun _ _ _ h => h) (Or.inl ⟨by rfl, by intro w' hSw; (try dsimp only at hSw); first | (go_simp; done) | (go_simp; with_reducible rfl)⟩) hHeld ?_
        simp only [Act.put, List.setIfInBounds_toArray, List.set_cons_zero, List.set_cons_succ]
        refine wpAnyH_take (i := 6) (oi := _) (v := _) (by simp only [List.getElem?_toArray, List.getElem?_cons_succ, List.getElem?_cons_zero]; rfl) (by kernel_rfl) (by kernel_rfl) (by kernel_rfl) (by exact fun _ _ _ h => h) (Or.inl ⟨by rfl, by intro w' hSw; (try dsimp only at hSw); first | (go_simp; done) | (go_simp; with_reducible rfl)⟩) hHeld ?_
        simp only [Act.put, List.setIfInBounds_toArray, List.set_cons_zero, List.set_cons_succ]
        refine wpAnyH_take (i := 7) (oi := _) (v := _) (by simp only [List.getElem?_toArray, List.getElem?_cons_succ, List.getElem?_cons_zero]; rfl) (by kernel_rfl) (by kernel_rfl) (by kernel_rfl) (by exact fun _ _ _ h => h) (Or.inl ⟨by rfl, by intro w' hSw; (try dsimp only at hSw); first | (go_simp; done) | (go_simp; with_reducible rfl)⟩) hHeld ?_
        simp only [Act.put, List.setIfInBounds_toArray, List.set_cons_zero, List.set_cons_succ]
        refine wpAnyH_take (i := 8) (oi := _) (v := _) (by simp only [List.getElem?_toArray, List.getElem?_cons_succ, List.getElem?_cons_zero]; rfl) (by kernel_rfl) (by kernel_rfl) (by kernel_rfl) (by exact fun _ _ _ h => h) (Or.inl ⟨by rfl, by intro w' hSw; (try dsimp only at hSw); first | (go_simp; done) | (go_simp; with_reducible rfl)⟩) hHeld ?_
        simp only [Act.put, List.setIfInBounds_toArray, List.set_cons_zero, List.set_cons_succ]
        refine wpAnyH_take (i := 9) (oi := _) (v := _) (by simp only [List.getElem?_toArray, List.getElem?_cons_succ, List.getElem?_cons_zero]; rfl) (by kernel_rfl) (by kernel_rfl) (by kernel_rfl) (by exact fun _ _ _ h => h) (Or.inl ⟨by rfl, by intro w' hSw; (try dsimp only at hSw); first | (go_simp; done) | (go_simp; with_reducible rfl)⟩) hHeld ?_
        simp only [Act.put, List.setIfInBounds_toArray, List.set_cons_zero, List.set_cons_succ]
        refine wpAnyH_take (i := 10) (oi := _) (v := _) (by simp only [List.getElem?_toArray, List.getElem?_cons_succ, List.getElem?_cons_zero]; rfl) (by kernel_rfl) (by kernel_rfl) (by kernel_rfl) (by exact fun _ _ _ h => h) (Or.inl ⟨by rfl, by intro w' hSw; (try dsimp only at hSw); first | (go_simp; done) | (go_simp; with_reducible rfl)⟩) hHeld ?_
        simp only [Act.put, List.setIfInBounds_toArray, List.set_cons_zero, List.set_cons_succ]
        refine wpAnyH_take (i := 11) (oi := _) (v := _) (by simp only [List.getElem?_toArray, List.getElem?_cons_succ, List.getElem?_cons_zero]; rfl) (by kernel_rfl) (by kernel_rfl) (by kernel_rfl) (by exact fun _ _ _ h => h) (Or.inl ⟨by rfl, by intro w' hSw; (try dsimp only at hSw); first | (go_simp; done) | (go_simp; with_reducible rfl)⟩) hHeld ?_
        simp only [Act.put, List.setIfInBounds_toArray, List.set_cons_zero, List.set_cons_succ]
        refine wpAnyH_take (i := 12) (oi := _) (v := _) (by simp only [List.getElem?_toArray, List.getElem?_cons_succ, List.getElem?_cons_zero]; rfl) (by kernel_rfl) (by kernel_rfl) (by kernel_rfl) (by exact fun _ _ _ h => h) (Or.inl ⟨by rfl, by intro w' hSw; (try dsimp only at hSw); first | (go_simp; done) | (go_simp; with_reducible rfl)⟩) hHeld ?_
        simp only [Act.put, List.setIfInBounds_toArray, List.set_cons_zero, List.set_cons_succ]
        refine wpAnyH_take (i := 13) (oi := _) (v := _) (by simp only [List.getElem?_toArray, List.getElem?_cons_succ, List.getElem?_cons_zero]; rfl) (by kernel_rfl) (by kernel_rfl) (by kernel_rfl) (by exact fun _ _ _ h => h) (Or.inl ⟨by rfl, by intro w' hSw; (try dsimp only at hSw); first | (go_simp; done) | (go_simp; with_reducible rfl)⟩) hHeld ?_
        simp only [Act.put, List.setIfInBounds_toArray, List.set_cons_zero, List.set_cons_succ]
        refine wpAnyH_take (i := 14) (oi := _) (v := _) (by simp only [List.getElem?_toArray, List.getElem?_cons_succ, List.getElem?_cons_zero]; rfl) (by kernel_rfl) (by kernel_rfl) (by kernel_rfl) (by exact fun _ _ _ h => h) (Or.inl ⟨by rfl, by intro w' hSw; (try dsimp only at hSw); first | (go_simp; done) | (go_simp; with_reducible rfl)⟩) hHeld ?_
        simp only [Act.put, List.setIfInBounds_toArray, List.set_cons_zero, List.set_cons_succ]
        refine wpAnyH_take (i := 15) (oi := _) (v := _) (by simp only [List.getElem?_toArray, List.getElem?_cons_succ, List.getElem?_cons_zero]; rfl) (by kernel_rfl) (by kernel_rfl) (by kernel_rfl) (by exact fun _ _ _ h => h) (Or.inl ⟨by rfl, by intro w' hSw; (try dsimp only at hSw); first | (go_simp; done) | (go_simp; with_reducible rfl)⟩) hHeld ?_
        simp only [Act.put, List.setIfInBounds_toArray, List.set_cons_zero, List.set_cons_succ]
        refine wpAnyH_take (i := 16) (oi := _) (v := _) (by simp only [List.getElem?_toArray, List.getElem?_cons_succ, List.getElem?_cons_zero]; rfl) (by kernel_rfl) (by kernel_rfl) (by kernel_rfl) (by exact fun _ _ _ h => h) (Or.inl ⟨by rfl, by intro w' hSw; (try dsimp only at hSw); first | (go_simp; done) | (go_simp; with_reducible rfl)⟩) hHeld ?_
        simp only [Act.put, List.setIfInBounds_toArray, List.set_cons_zero, List.set_cons_succ]
        refine wpAnyH_take (i := 17) (oi := _) (v := _) (by simp only [List.getElem?_toArray, List.getElem?_cons_succ, List.getElem?_cons_zero]; rfl) (by kernel_rfl) (by kernel_rfl) (by kernel_rfl) (by exact fun _ _ _ h => h) (Or.inl ⟨by rfl, by intro w' hSw; (try dsimp only at hSw); first | (go_simp; done) | (go_simp; with_reducible rfl)⟩) hHeld ?_
        simp only [Act.put, List.setIfInBounds_toArray, List.set_cons_zero, List.set_cons_succ]
        refine wpAnyH_take (i := 18) (oi := _) (v := _) (by simp only [List.getElem?_toArray, List.getElem?_cons_succ, List.getElem?_cons_zero]; rfl) (by kernel_rfl) (by kernel_rfl) (by kernel_rfl) (by exact fun _ _ _ h => h) (Or.inl ⟨by rfl, by intro w' hSw; (try dsimp only at hSw); first | (go_simp; done) | (go_simp; with_reducible rfl)⟩) hHeld ?_
        simp only [Act.put, List.setIfInBounds_toArray, List.set_cons_zero, List.set_cons_succ]
        refine wpAnyH_take (i := 21) (oi := _) (v := _) (by simp only [List.getElem?_toArray, List.getElem?_cons_succ, List.getElem?_cons_zero]; rfl) (by kernel_rfl) (by kernel_rfl) (by kernel_rfl) (by exact fun _ _ _ h => h) (Or.inl ⟨by rfl, by intro w' hSw; (try dsimp only at hSw); first | (go_simp; done) | (go_simp; with_reducible rfl)⟩) hHeld ?_
        simp only [Act.put, List.setIfInBounds_toArray, List.set_cons_zero, List.set_cons_succ]
        refine wpAnyH_take (i := 22) (oi := _) (v := _) (by simp only [List.getElem?_toArray, List.getElem?_cons_succ, List.getElem?_cons_zero]; rfl) (by kernel_rfl) (by kernel_rfl) (by kernel_rfl) (by exact fun _ _ _ h => h) (Or.inl ⟨by rfl, by intro w' hSw; (try dsimp only at hSw); first | (go_simp; done) | (go_simp; with_reducible rfl)⟩) hHeld ?_
        simp only [Act.put, List.setIfInBounds_toArray, List.set_cons_zero, List.set_cons_succ]
        refine wpAnyH_take (i := 23) (oi := _) (v := _) (by simp only [List.getElem?_toArray, List.getElem?_cons_succ, List.getElem?_cons_zero]; rfl) (by kernel_rfl) (by kernel_rfl) (by kernel_rfl) (by exact fun _ _ _ h => h) (Or.inl ⟨by rfl, by intro w' hSw; (try dsimp only at hSw); first | (go_simp; done) | (go_simp; with_reducible rfl)⟩) hHeld ?_
        simp only [Act.put, List.setIfInBounds_toArray, List.set_cons_zero, List.set_cons_succ]
        refine wpAnyH_take (i := 24) (oi := _) (v := _) (by simp only [List.getElem?_toArray, List.getElem?_cons_succ, List.getElem?_cons_zero]; rfl) (by kernel_rfl) (by kernel_rfl) (by kernel_rfl) (by exact fun _ _ _ h => h) (Or.inl ⟨by rfl, by intro w' hSw; (try dsimp only at hSw); first | (go_simp; done) | (go_simp; with_reducible rfl)⟩) hHeld ?_
        simp only [Act.put, List.setIfInBounds_toArray, List.set_cons_zero, List.set_cons_succ]
        refine wpAnyH_take (i := 25) (oi := _) (v := _) (by simp only [List.getElem?_toArray, List.getElem?_cons_succ, List.getElem?_cons_zero]; rfl) (by kernel_rfl) (by kernel_rfl) (by kernel_rfl) (by exact fun _ _ _ h => h) (Or.inl ⟨by rfl, by intro w' hSw; (try dsimp only at hSw); first | (go_simp; done) | (go_simp; with_reducible rfl)⟩) hHeld ?_
        simp only [Act.put, List.setIfInBounds_toArray, List.set_cons_zero, List.set_cons_succ]
        refine wpAnyH_take (i := 26) (oi := _) (v := _) (by simp only [List.getElem?_toArray, List.getElem?_cons_succ, List.getElem?_cons_zero]; rfl) (by kernel_rfl) (by kernel_rfl) (by kernel_rfl) (by exact fun _ _ _ h => h) (Or.inl ⟨by rfl, by intro w' hSw; (try dsimp only at hSw); first | (go_simp; done) | (go_simp; with_reducible rfl)⟩) hHeld ?_
        simp only [Act.put, List.setIfInBounds_toArray, List.set_cons_zero, List.set_cons_succ]
        refine wpAnyH_ready (rs := [19, 27]) (by kernel_rfl) (by simp) ?_
        refine (AllReadyH.cons (o := _) (by simp only [List.getElem?_toArray, List.getElem?_cons_succ, List.getElem?_cons_zero]; rfl) (fun K hK => ?_) (AllReadyH.cons (o := _) (by simp only [List.getElem?_toArray, List.getElem?_cons_succ, List.getElem?_cons_zero]; rfl) (fun K hK => ?_) AllReadyH.nil))
        · skip
          go_simp
          obtain ⟨W1, hW1⟩ : ∃ W1, W1 = W0.alloc (Obj.cells #[.int .u8 x.op, .int .u8 x.d, .int .u8 x.s, .int .u8 0] 5) := ⟨_, rfl⟩
          have BW1 : Hid (Below w.heap.size w W1) := by rw [hW1]; exact BW0.out.alloc BW0.out.size _
          have hLW1 : W1.heap[W0.heap.size]? = some (.cells #[.int .u8 x.op, .int .u8 x.d, .int .u8 x.s, .int .u8 0] 5 (0, 0)) := by rw [hW1]; exact heap_alloc_new _ _
          obtain ⟨lW1, hlW1⟩ : ∃ lW1, lW1 = W0.heap.size := ⟨_, rfl⟩
          rw [← hlW1] at hLW1
          have LW1 : Hid (W1.heap[lW1]? = some (.cells #[.int .u8 x.op, .int .u8 x.d, .int .u8 x.s, .int .u8 0] 5 (0, 0))) := hLW1
          rw [← hW1, ← hlW1]
          refine hK.out _ _ (HSL.out _ BW1.out) (fun hHeld => ?_)
          clear hK K hW1 hLW1 hlW1
          try simp only [Act.put, List.setIfInBounds_toArray, List.set_cons_zero, List.set_cons_succ]
          refine wpAnyH_ready (rs := [20, 27]) (by kernel_rfl) (by simp) ?_
          refine (AllReadyH.cons (o := _) (by simp only [List.getElem?_toArray, List.getElem?_cons_succ, List.getElem?_cons_zero]; rfl) (fun K hK => ?_) (AllReadyH.cons (o := _) (by simp only [List.getElem?_toArray, List.getElem?_cons_succ, List.getElem?_cons_zero]; rfl) (fun K hK => ?_) AllReadyH.nil))
          · skip
            have hcv := conv_four W1 lW1 _ _ _ _ LW1.out
            go_simp
            refine hK.out _ _ (HSL.out _ BW1.out) (fun hHeld => ?_)
            clear hK K hcv
            try simp only [Act.put, List.setIfInBounds_toArray, List.set_cons_zero, List.set_cons_succ]
            refine wpAnyH_ready (rs := [27]) (by kernel_rfl) (by simp) ?_
            refine (AllReadyH.cons (o := _) (by simp only [List.getElem?_toArray, List.getElem?_cons_succ, List.getElem?_cons_zero]; rfl) (fun K hK => ?_) AllReadyH.nil)
            · skip
              go_simp
              go_wp2_with fail
              refine (refput_any _ _ W1 (by omega)).mono ?_
              rintro r W2 ⟨rfl, hbW2⟩
              have BW2 : Hid (Below w.heap.size w W2) := BW1.out.trans (hbW2.mono BW1.out.size)
              have MW2 : Hid (W2.heap[lW1]? = some (.cells #[.int .u8 x.op, .int .u8 x.d, .int .u8 x.s, .int .u8 0] 5 (0, 0))) := (hbW2.block _ (lt_of_heap LW1.out)).trans LW1.out
              refine hK.out _ _ (HSL.out _ BW2.out) (fun hHeld => ?_)
              clear hK K hbW2
              try simp only [Act.put, List.setIfInBounds_toArray, List.set_cons_zero, List.set_cons_succ]
              refine wpAnyH_take (i := 28) (oi := _) (v := _) (by simp only [List.getElem?_toArray, List.getElem?_cons_succ, List.getElem?_cons_zero]; rfl) (by kernel_rfl) (by kernel_rfl) (by kernel_rfl) (by exact fun _ _ _ h => h) (Or.inl ⟨by rfl, by intro w' hSw; (try dsimp only at hSw); first | (go_simp; done) | (go_simp; with_reducible rfl)⟩) hHeld ?_
              simp only [Act.put, List.setIfInBounds_toArray, List.set_cons_zero, List.set_cons_succ]
              refine wpAnyH_take (i := 29) (oi := _) (v := _) (by simp only [List.getElem?_toArray, List.getElem?_cons_succ, List.getElem?_cons_zero]; rfl) (by kernel_rfl) (by kernel_rfl) (by kernel_rfl) (by exact fun _ _ _ h => h) (Or.inl ⟨by rfl, by intro w' hSw; (try dsimp only at hSw); first | (go_simp; done) | (go_simp; with_reducible rfl)⟩) hHeld ?_
              simp only [Act.put, List.setIfInBounds_toArray, List.set_cons_zero, List.set_cons_succ]
              refine wpAnyH_take (i := 30) (oi := _) (v := _) (by simp only [List.getElem?_toArray, List.getElem?_cons_succ, List.getElem?_cons_zero]; rfl) (by kernel_rfl) (by kernel_rfl) (by kernel_rfl) (by exact fun _ _ _ h => h) (Or.inl ⟨by rfl, by intro w' hSw; (try dsimp only at hSw); first | (go_simp; done) | (go_simp; with_reducible rfl)⟩) hHeld ?_
              simp only [Act.put, List.setIfInBounds_toArray, List.set_cons_zero, List.set_cons_succ]
              refine wpAnyH_done (by kernel_rfl) ?_ _
              clear hHeld
              go_wp2_with fail
              go_roundw
              case rel => exact ⟨k + 1, _, by omega, by go_num, rfl, HT2.out, HR2.out, BW2.out⟩
              case measure => simp [intOf]; omega
          · skip
            go_simp
            go_wp2_with fail
            refine (refput_any _ _ W1 (by omega)).mono ?_
            rintro r W3 ⟨rfl, hbW3⟩
            have BW3 : Hid (Below w.heap.size w W3) := BW1.out.trans (hbW3.mono BW1.out.size)
            have MW3 : Hid (W3.heap[lW1]? = some (.cells #[.int .u8 x.op, .int .u8 x.d, .int .u8 x.s, .int .u8 0] 5 (0, 0))) := (hbW3.block _ (lt_of_heap LW1.out)).trans LW1.out
            refine hK.out _ _ (HSL.out _ BW3.out) (fun hHeld => ?_)
            clear hK K hbW3
            try simp only [Act.put, List.setIfInBounds_toArray, List.set_cons_zero, List.set_cons_succ]
            refine wpAnyH_ready (rs := [20]) (by kernel_rfl) (by simp) ?_
            refine (AllReadyH.cons (o := _) (by simp only [List.getElem?_toArray, List.getElem?_cons_succ, List.getElem?_cons_zero]; rfl) (fun K hK => ?_) AllReadyH.nil)
            · skip
              have hcv := conv_four W3 lW1 _ _ _ _ MW3.out
              go_simp
              refine hK.out _ _ (HSL.out _ BW3.out) (fun hHeld => ?_)
              clear hK K hcv
              try simp only [Act.put, List.setIfInBounds_toArray, List.set_cons_zero, List.set_cons_succ]
              refine wpAnyH_take (i := 28) (oi := _) (v := _) (by simp only [List.getElem?_toArray, List.getElem?_cons_succ, List.getElem?_cons_zero]; rfl) (by kernel_rfl) (by kernel_rfl) (by kernel_rfl) (by exact fun _ _ _ h => h) (Or.inl ⟨by rfl, by intro w' hSw; (try dsimp only at hSw); first | (go_simp; done) | (go_simp; with_reducible rfl)⟩) hHeld ?_
              simp only [Act.put, List.setIfInBounds_toArray, List.set_cons_zero, List.set_cons_succ]
              refine wpAnyH_take (i := 29) (oi := _) (v := _) (by simp only [List.getElem?_toArray, List.getElem?_cons_succ, List.getElem?_cons_zero]; rfl) (by kernel_rfl) (by kernel_rfl) (by kernel_rfl) (by exact fun _ _ _ h => h) (Or.inl ⟨by rfl, by intro w' hSw; (try dsimp only at hSw); first | (go_simp; done) | (go_simp; with_reducible rfl)⟩) hHeld ?_
              simp only [Act.put, List.setIfInBounds_toArray, List.set_cons_zero, List.set_cons_succ]
              refine wpAnyH_take (i := 30) (oi := _) (v := _) (by simp only [List.getElem?_toArray, List.getElem?_cons_succ, List.getElem?_cons_zero]; rfl) (by kernel_rfl) (by kernel_rfl) (by kernel_rfl) (by exact fun _ _ _ h => h) (Or.inl ⟨by rfl, by intro w' hSw; (try dsimp only at hSw); first | (go_simp; done) | (go_simp; with_reducible rfl)⟩) hHeld ?_
              simp only [Act.put, List.setIfInBounds_toArray, List.set_cons_zero, List.set_cons_succ]
              refine wpAnyH_done (by kernel_rfl) ?_ _
              clear hHeld
              go_wp2_with fail
              go_roundw
              case rel => exact ⟨k + 1, _, by omega, by go_num, rfl, HT2.out, HR2.out, BW3.out⟩
              case measure => simp [intOf]; omega
        · skip
          go_simp
          go_wp2_with fail
          refine (refput_any _ _ W0 (by omega)).mono ?_
          rintro r W4 ⟨rfl, hbW4⟩
          have BW4 : Hid (Below w.heap.size w W4) := BW0.out.trans (hbW4.mono BW0.out.size)
          refine hK.out _ _ (HSL.out _ BW4.out) (fun hHeld => ?_)
          clear hK K hbW4
          try simp only [Act.put, List.setIfInBounds_toArray, List.set_cons_zero, List.set_cons_succ]
          refine wpAnyH_ready (rs := [19]) (by kernel_rfl) (by simp) ?_
          refine (AllReadyH.cons (o := _) (by simp only [List.getElem?_toArray, List.getElem?_cons_succ, List.getElem?_cons_zero]; rfl) (fun K hK => ?_) AllReadyH.nil)
          · skip
            go_simp
            obtain ⟨W5, hW5⟩ : ∃ W5, W5 = W4.alloc (Obj.cells #[.int .u8 x.op, .int .u8 x.d, .int .u8 x.s, .int .u8 0] 5) := ⟨_, rfl⟩
            have BW5 : Hid (Below w.heap.size w W5) := by rw [hW5]; exact BW4.out.alloc BW4.out.size _
            have hLW5 : W5.heap[W4.heap.size]? = some (.cells #[.int .u8 x.op, .int .u8 x.d, .int .u8 x.s, .int .u8 0] 5 (0, 0)) := by rw [hW5]; exact heap_alloc_new _ _
            obtain ⟨lW5, hlW5⟩ : ∃ lW5, lW5 = W4.heap.size := ⟨_, rfl⟩
            rw [← hlW5] at hLW5
            have LW5 : Hid (W5.heap[lW5]? = some (.cells #[.int .u8 x.op, .int .u8 x.d, .int .u8 x.s, .int .u8 0] 5 (0, 0))) := hLW5
            rw [← hW5, ← hlW5]
            refine hK.out _ _ (HSL.out _ BW5.out) (fun hHeld => ?_)
            clear hK K hW5 hLW5 hlW5
            try simp only [Act.put, List.setIfInBounds_toArray, List.set_cons_zero, List.set_cons_succ]
            refine wpAnyH_ready (rs := [20]) (by kernel_rfl) (by simp) ?_
            refine (AllReadyH.cons (o := _) (by simp only [List.getElem?_toArray, List.getElem?_cons_succ, List.getElem?_cons_zero]; rfl) (fun K hK => ?_) AllReadyH.nil)
            · skip
              have hcv := conv_four W5 lW5 _ _ _ _ LW5.out
              go_simp
              refine hK.out _ _ (HSL.out _ BW5.out) (fun hHeld => ?_)
              clear hK K hcv
              try simp only [Act.put, List.setIfInBounds_toArray, List.set_cons_zero, List.set_cons_succ]
              refine wpAnyH_take (i := 28) (oi := _) (v := _) (by simp only [List.getElem?_toArray, List.getElem?_cons_succ, List.getElem?_cons_zero]; rfl) (by kernel_rfl) (by kernel_rfl) (by kernel_rfl) (by exact fun _ _ _ h => h) (Or.inl ⟨by rfl, by intro w' hSw; (try dsimp only at hSw); first | (go_simp; done) | (go_simp; with_reducible rfl)⟩) hHeld ?_
              simp only [Act.put, List.setIfInBounds_toArray, List.set_cons_zero, List.set_cons_succ]
              refine wpAnyH_take (i := 29) (oi := _) (v := _) (by simp only [List.getElem?_toArray, List.getElem?_cons_succ, List.getElem?_cons_zero]; rfl) (by kernel_rfl) (by kernel_rfl) (by kernel_rfl) (by exact fun _ _ _ h => h) (Or.inl ⟨by rfl, by intro w' hSw; (try dsimp only at hSw); first | (go_simp; done) | (go_simp; with_reducible rfl)⟩) hHeld ?_
              simp only [Act.put, List.setIfInBounds_toArray, List.set_cons_zero, List.set_cons_succ]
              refine wpAnyH_take (i := 30) (oi := _) (v := _) (by simp only [List.getElem?_toArray, List.getElem?_cons_succ, List.getElem?_cons_zero]; rfl) (by kernel_rfl) (by kernel_rfl) (by kernel_rfl) (by exact fun _ _ _ h => h) (Or.inl ⟨by rfl, by intro w' hSw; (try dsimp only at hSw); first | (go_simp; done) | (go_simp; with_reducible rfl)⟩) hHeld ?_
              simp only [Act.put, List.setIfInBounds_toArray, List.set_cons_zero, List.set_cons_succ]
              refine wpAnyH_done (by kernel_rfl) ?_ _
              clear hHeld
              go_wp2_with fail
              go_roundw
              case rel => exact ⟨k + 1, _, by omega, by go_num, rfl, HT2.out, HR2.out, BW5.out⟩
              case measure => simp [intOf]; omega
      · have HE : Hid (putE l = 1 ∧ putS l = ByteArray.empty) := by
          have he : putE l = 1 := by
            unfold putE
            rw [HLN.out, if_neg hl, if_neg]
            rw [List.all_eq_true]
            exact fun hh => hp (of_decide_eq_true (hh x HME.out))
          exact ⟨he, by unfold putS; rw [he]; rfl⟩
        rw [decide_eq_false hp]
        go_wp2_with fail
        go_ret2
        exact ⟨by rw [HE.out.1, HE.out.2]; rfl, HB2.out⟩
    · obtain rfl : k = n := by omega
      have hTL : l.take k = l := by rw [← HLN.out, List.take_length]
      have HE : Hid (putE l = 0 ∧ putS l = T) := by
        have he : putE l = 0 := putE_zero.2 ⟨by rw [HLN.out]; omega, by have := HR.out; rw [hTL] at this; exact this⟩
        exact ⟨he, by unfold putS; rw [he, HT.out, hTL]; rfl⟩
      clear hTL
      go_wp2_with fail
      go_ret2
      exact ⟨by rw [HE.out.1, HE.out.2]; rfl, HB.out⟩

end Go.Proofs.YtielliiadacbbaaDoor.Cd
