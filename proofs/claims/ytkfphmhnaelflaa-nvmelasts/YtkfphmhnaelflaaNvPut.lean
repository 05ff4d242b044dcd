/-
  The closure of NvmeLasts: a command is submitted, and perhaps completed. No condition.
-/
import Derived.Test.YtkfphmhnaelflaaNvX
import Derived.Test.YtkfphmhnaelflaaNvActs
import Derived.Test.YtkfphmhnaelflaaNvL
import Derived.Test.YtkfphmhnaelflaaNvOrders
import Derived.Test.YtkfphmhnaelflaaLeM
namespace Go.Proofs.Ytkfphmhnaelflaa.Nv
open Go.ChangeShapes Go.WideShapes Go.ChangeAt Go.RowKit Go.Proofs.Fa

def sec3 (x : Int) : Int := bits BinOp.and .i64 x 3
theorem sec3_in (x : Int) : 0 ≤ sec3 x ∧ sec3 x < 4 := by
  have h : bits .and .i64 x 3 = x % 4 := Le.i64_and_mask x 2 (by decide)
  unfold sec3
  rw [h]
  omega
def putC (x : Act6) : Cmd := ⟨kindO x.kind, sec3 x.sector, cutB x.data, 0⟩
def Act6.agg (x : Act6) : Value := .agg #[.int .i64 x.what, .int .i64 x.kind, .int .i64 x.sector, .string x.data, .int .i64 x.n, .slice x.ka x.kl x.kc]
/-- The device behind a put. -/
def putF (d : Dev) (x : Act6) : Dev := if bits BinOp.and .i64 x.n 1 = 1 then (completeF (submitF d (putC x)) 0).1 else submitF d (putC x)

theorem DevAt.intro {w : World} {S : Nat → Prop} {b : Nat} {d : Dev} {vl vc vw vk : Value} (h : DevIn w S b d vl vc vw vk) : DevAt w S b d := ⟨_, _, _, _, h⟩

set_option maxRecDepth 100000
set_option maxHeartbeats 8000000

theorem put_any (x : Act6) (hx : ActWf x) (w : World) (H : Nat → Prop) (z b : Nat) (d : Dev) (hz : w.heap[z]? = some (.cells #[.pointer (some ⟨b, 0, none⟩)] 27 (0, 0))) (hzH : H z) (hd : LivesX H w b d) (hH : ∀ k, H k → k < w.heap.size) (ho : Ok d) (ho2 : Ok (submitF d (putC x))) (hk : (submitF d (putC x)).keep.length ≤ 1000000) :
    Calls Try.prog 12 #[x.agg, .pointer (some ⟨z, 0, none⟩)] w fun e w' => (∃ u, e = .returned u) ∧ LivesX H w' b (putF d x) ∧ TurnX H w w' := by
  have HZ : Hid (w.heap[z]? = _) := hz
  have HO : Hid (Ok d) := ho
  have HO2 : Hid (Ok (submitF d (putC x))) := ho2
  have HK : Hid ((submitF d (putC x)).keep.length ≤ 1000000) := hk
  have HC : Hid (putC x = ⟨kindO x.kind, sec3 x.sector, cutB x.data, 0⟩) := rfl
  have HP : Hid (putF d x = if bits BinOp.and .i64 x.n 1 = 1 then (completeF (submitF d (putC x)) 0).1 else submitF d (putC x)) := rfl
  have hxs : x.data.size ≤ 9223372036854775807 := by have := hx.2.2.1; unfold maxLen at this; omega
  obtain ⟨vl0, vc0, vw0, vk0, hdi⟩ := hd
  have HDI : Hid (DevIn w (fun q => ¬ H q ∧ q < w.heap.size) b d vl0 vc0 vw0 vk0) := hdi
  clear hdi hz ho ho2 hk hx
  obtain ⟨xw, xk, xs, xd, xn, ka, kl, kc⟩ := x
  rw [show Act6.agg ⟨xw, xk, xs, xd, xn, ka, kl, kc⟩ = .agg #[.int .i64 xw, .int .i64 xk, .int .i64 xs, .string xd, .int .i64 xn, .slice ka kl kc] from rfl]
  dsimp only at HC hxs HP
  have HBP : Hid (Below w.heap.size w (w.alloc (Obj.cells #[.int .i64 xw, .int .i64 xk, .int .i64 xs, .string xd, .int .i64 xn, .slice ka kl kc] 33))) := (Below.refl _ _).alloc (Nat.le_refl _) _
  have HPP : Hid ((w.alloc (Obj.cells #[.int .i64 xw, .int .i64 xk, .int .i64 xs, .string xd, .int .i64 xn, .slice ka kl kc] 33)).heap[w.heap.size]? = some (.cells #[.int .i64 xw, .int .i64 xk, .int .i64 xs, .string xd, .int .i64 xn, .slice ka kl kc] 33 (0, 0))) := heap_alloc_new _ _
  have cz := cell_of_heap ((HBP.out.block _ (lt_of_heap HZ.out)).trans HZ.out) 0 _ rfl
  have c1 := cell_of_heap HPP.out 1 _ rfl
  have c2 := cell_of_heap HPP.out 2 _ rfl
  have c3 := cell_of_heap HPP.out 3 _ rfl
  obtain ⟨m, hm⟩ : ∃ m : Nat, m = min xd.size 20 := ⟨_, rfl⟩
  have hm1 : (if (20 : Int) < (xd.size : Int) then (20 : Int) else (xd.size : Int)) = (m : Int) := by split <;> omega
  have hm2 : min (xd.size : Int) 20 = (m : Int) := by omega
  have hmx : m ≤ xd.size := by omega
  have hm20 : m ≤ 20 := by omega
  have HCUT : Hid (fullB (xd.extract 0 m) = cutB xd) := by show _ = _; rw [hm]; rfl
  have hy : (xd.extract 0 m).size ≤ 20 := by rw [ByteArray.size_extract]; omega
  clear hm
  by_cases hbit : bits BinOp.and .i64 xk 1 = 1
  · have hKK : kindO xk = 3 := by unfold kindO; rw [if_pos hbit]
    rw [hKK] at HC
    rw [HC.out] at HO2 HK HP
    clear hKK HC
    go_enter Try.func12, Try.ntmps12
    go_wp2
    refine wp_region_held_drew (S := fun W => W.cell? ⟨z, 0, none⟩ = some (.pointer (some ⟨b, 0, none⟩)) ∧ W.cell? ⟨w.heap.size, 2, none⟩ = some (.int .i64 xs) ∧ W.cell? ⟨w.heap.size, 3, none⟩ = some (.string xd)) (by kernel_rfl) (by exact ⟨cz, c2, c3⟩) (fun hHeld => ?_)
    change wpAnyH _ _ _ _ _ 15 (Array.replicate 15 false) _ _
    refine wpAnyH_take (i := 0) (oi := _) (v := _) (by simp only [List.getElem?_toArray, List.getElem?_cons_zero]; rfl) (by kernel_rfl) (by kernel_rfl) (by kernel_rfl) (by exact fun _ _ _ h => h) (Or.inl ⟨by rfl, by intro w' hSw; (try dsimp only at hSw); first | (go_simp; done) | (go_simp; with_reducible rfl)⟩) hHeld ?_
    simp only [Act.put, List.setIfInBounds_toArray, List.set_cons_zero, List.set_cons_succ]
    refine wpAnyH_take (i := 1) (oi := _) (v := _) (by simp only [List.getElem?_toArray, List.getElem?_cons_succ, List.getElem?_cons_zero]; rfl) (by kernel_rfl) (by kernel_rfl) (by kernel_rfl) (by exact fun _ _ _ h => h) (Or.inl ⟨by rfl, by intro w' hSw; (try dsimp only at hSw); first | (go_simp; done) | (go_simp; with_reducible rfl)⟩) hHeld ?_
    simp only [Act.put, List.setIfInBounds_toArray, List.set_cons_zero, List.set_cons_succ]
    refine wpAnyH_take (i := 2) (oi := _) (v := _) (by simp only [List.getElem?_toArray, List.getElem?_cons_succ, List.getElem?_cons_zero]; rfl) (by kernel_rfl) (by kernel_rfl) (by kernel_rfl) (by exact fun _ _ _ h => h) (Or.inl ⟨by rfl, by intro w' hSw; (try dsimp only at hSw); first | (go_simp; done) | (go_simp; with_reducible rfl)⟩) hHeld ?_
    simp only [Act.put, List.setIfInBounds_toArray, List.set_cons_zero, List.set_cons_succ]
    refine wpAnyH_take (i := 3) (oi := _) (v := _) (by simp only [List.getElem?_toArray, List.getElem?_cons_succ, List.getElem?_cons_zero]; rfl) (by kernel_rfl) (by kernel_rfl) (by kernel_rfl) (by exact fun _ _ _ h => h) (Or.inl ⟨by rfl, by intro w' hSw; (try dsimp only at hSw); first | (go_simp; done) | (go_simp; with_reducible rfl)⟩) hHeld ?_
    simp only [Act.put, List.setIfInBounds_toArray, List.set_cons_zero, List.set_cons_succ]
    refine wpAnyH_take (i := 4) (oi := _) (v := _) (by simp only [List.getElem?_toArray, List.getElem?_cons_succ, List.getElem?_cons_zero]; rfl) (by kernel_rfl) (by kernel_rfl) (by kernel_rfl) (by exact fun _ _ _ h => h) (Or.inl ⟨by rfl, by intro w' hSw; (try dsimp only at hSw); first | (go_simp; done) | (go_simp; with_reducible rfl)⟩) hHeld ?_
    simp only [Act.put, List.setIfInBounds_toArray, List.set_cons_zero, List.set_cons_succ]
    refine wpAnyH_take (i := 5) (oi := _) (v := _) (by simp only [List.getElem?_toArray, List.getElem?_cons_succ, List.getElem?_cons_zero]; rfl) (by kernel_rfl) (by kernel_rfl) (by kernel_rfl) (by exact fun _ _ _ h => h) (Or.inl ⟨by rfl, by intro w' hSw; (try dsimp only at hSw); first | (go_simp; done) | (go_simp; with_reducible rfl)⟩) hHeld ?_
    simp only [Act.put, List.setIfInBounds_toArray, List.set_cons_zero, List.set_cons_succ]
    refine wpAnyH_take (i := 6) (oi := _) (v := _) (by simp only [List.getElem?_toArray, List.getElem?_cons_succ, List.getElem?_cons_zero]; rfl) (by kernel_rfl) (by kernel_rfl) (by kernel_rfl) (by exact fun _ _ _ h => h) (Or.inl ⟨by rfl, by intro w' hSw; (try dsimp only at hSw); first | (go_simp; done) | (go_simp; with_reducible rfl)⟩) hHeld ?_
    simp only [Act.put, List.setIfInBounds_toArray, List.set_cons_zero, List.set_cons_succ]
    refine wpAnyH_take (i := 7) (oi := _) (v := _) (by simp only [List.getElem?_toArray, List.getElem?_cons_succ, List.getElem?_cons_zero]; rfl) (by kernel_rfl) (by kernel_rfl) (by kernel_rfl) (by exact fun _ _ _ h => h) (Or.inl ⟨by rfl, by intro w' hSw; (try dsimp only at hSw); first | (go_simp; done) | (go_simp; with_reducible rfl)⟩) hHeld ?_
    simp only [Act.put, List.setIfInBounds_toArray, List.set_cons_zero, List.set_cons_succ]
    refine wpAnyH_take (i := 8) (oi := _) (v := _) (by simp only [List.getElem?_toArray, List.getElem?_cons_succ, List.getElem?_cons_zero]; rfl) (by kernel_rfl) (by kernel_rfl) (by kernel_rfl) (by exact fun _ _ _ h => h) (Or.inl ⟨by rfl, by intro w' hSw; (try dsimp only at hSw); first | (go_simp; done) | (go_simp; with_reducible rfl)⟩) hHeld ?_
    simp only [Act.put, List.setIfInBounds_toArray, List.set_cons_zero, List.set_cons_succ]
    refine wpAnyH_take (i := 9) (oi := _) (v := _) (by simp only [List.getElem?_toArray, List.getElem?_cons_succ, List.getElem?_cons_zero]; rfl) (by kernel_rfl) (by kernel_rfl) (by kernel_rfl) (by exact fun _ _ _ h => h) (Or.inl ⟨by rfl, by intro w' hSw; (try dsimp only at hSw); first | (go_simp; done) | (go_simp; with_reducible rfl)⟩) hHeld ?_
    simp only [Act.put, List.setIfInBounds_toArray, List.set_cons_zero, List.set_cons_succ]
    refine wpAnyH_take (i := 10) (oi := _) (v := _) (by simp only [List.getElem?_toArray, List.getElem?_cons_succ, List.getElem?_cons_zero]; rfl) (by kernel_rfl) (by kernel_rfl) (by kernel_rfl) (by exact fun _ _ _ h => h) (Or.inl ⟨by rfl, by intro w' hSw; (try dsimp only at hSw); first | (go_simp; done) | (go_simp; with_reducible rfl)⟩) hHeld ?_
    simp only [Act.put, List.setIfInBounds_toArray, List.set_cons_zero, List.set_cons_succ]
    refine wpAnyH_take (i := 11) (oi := _) (v := _) (by simp only [List.getElem?_toArray, List.getElem?_cons_succ, List.getElem?_cons_zero]; rfl) (by kernel_rfl) (by kernel_rfl) (by kernel_rfl) (by exact fun _ _ _ h => h) (Or.inl ⟨by rfl, by intro w' hSw; (try dsimp only at hSw); first | (go_simp; done) | (go_simp; with_reducible rfl)⟩) hHeld ?_
    simp only [Act.put, List.setIfInBounds_toArray, List.set_cons_zero, List.set_cons_succ]
    refine wpAnyH_ready (rs := [12]) (by kernel_rfl) (by simp) ?_
    refine AllReadyH.cons rfl (fun K hK => ?_) AllReadyH.nil
    go_simp
    go_wp2_with fail
    refine (full_any _ hy _).mono ?_
    rintro r w3 ⟨rfl, hb3⟩
    rw [HCUT.out]
    have HB3 : Hid (Below w.heap.size w w3) := HBP.out.trans (Below.mono (B := (w.alloc (Obj.cells #[.int .i64 xw, .int .i64 xk, .int .i64 xs, .string xd, .int .i64 xn, .slice ka kl kc] 33)).heap.size) ⟨hb3.os, hb3.tape, hb3.output, hb3.size, hb3.block⟩ HBP.out.size)
    have HP3 : Hid (w3.heap[w.heap.size]? = some (.cells #[.int .i64 xw, .int .i64 xk, .int .i64 xs, .string xd, .int .i64 xn, .slice ka kl kc] 33 (0, 0))) := (hb3.block _ (by simp)).trans HPP.out
    have HZ3 : Hid (w3.heap[z]? = some (.cells #[.pointer (some ⟨b, 0, none⟩)] 27 (0, 0))) := (HB3.out.block _ (lt_of_heap HZ.out)).trans HZ.out
    refine hK.out _ _ ⟨cell_of_heap HZ3.out 0 _ rfl, cell_of_heap HP3.out 2 _ rfl, cell_of_heap HP3.out 3 _ rfl⟩ (fun hHeld => ?_)
    clear hK K hb3
    refine wpAnyH_take (i := 13) (oi := _) (v := _) (by simp only [List.getElem?_toArray, List.getElem?_cons_succ, List.getElem?_cons_zero]; rfl) (by kernel_rfl) (by kernel_rfl) (by kernel_rfl) (by exact fun _ _ _ h => h) (Or.inl ⟨by rfl, by intro w' hSw; (try dsimp only at hSw); first | (go_simp; done) | (go_simp; with_reducible rfl)⟩) hHeld ?_
    simp only [Act.put, List.setIfInBounds_toArray, List.set_cons_zero, List.set_cons_succ]
    refine wpAnyH_ready (rs := [14]) (by kernel_rfl) (by simp) ?_
    refine AllReadyH.cons rfl (fun K hK => ?_) AllReadyH.nil
    go_simp
    go_wp2_with fail
    refine (submit_any ⟨3, sec3 xs, cutB xd, 0⟩ (HDI.out.below HB3.out) HO.out).mono ?_
    rintro r w4 ⟨rfl, hd4, ht4⟩
    have HD4 : Hid (DevAt w4 (Grow (fun q => ¬ H q ∧ q < w.heap.size) w3 w4) b (submitF d ⟨3, sec3 xs, cutB xd, 0⟩)) := hd4
    have HT4 : Hid (Turn (fun q => ¬ H q ∧ q < w.heap.size) w3 w4) := ht4
    have HP4 : Hid (w4.heap[w.heap.size]? = some (.cells #[.int .i64 xw, .int .i64 xk, .int .i64 xs, .string xd, .int .i64 xn, .slice ka kl kc] 33 (0, 0))) := (ht4.block _ (lt_of_heap HP3.out) (fun g => Nat.lt_irrefl _ g.2)).trans HP3.out
    have HZ4 : Hid (w4.heap[z]? = some (.cells #[.pointer (some ⟨b, 0, none⟩)] 27 (0, 0))) := (ht4.block _ (lt_of_heap HZ3.out) (fun g => g.1 hzH)).trans HZ3.out
    generalize errV (submitN d ⟨3, sec3 xs, cutB xd, 0⟩) = ev
    refine hK.out _ _ ⟨cell_of_heap HZ4.out 0 _ rfl, cell_of_heap HP4.out 2 _ rfl, cell_of_heap HP4.out 3 _ rfl⟩ (fun hHeld => ?_)
    clear hK K hd4 ht4
    refine wpAnyH_done (by kernel_rfl) ?_ _
    clear hHeld cz c1 c2 c3
    obtain ⟨vl, vc, vw, vk, hd4⟩ := HD4.out
    have HD4' : Hid (DevIn w4 (Grow (fun q => ¬ H q ∧ q < w.heap.size) w3 w4) b (submitF d ⟨3, sec3 xs, cutB xd, 0⟩) vl vc vw vk) := hd4
    clear hd4
    have cz := cell_of_heap HZ4.out 0 _ rfl
    have c4 := cell_of_heap HP4.out 4 _ rfl
    have h43 := HT4.out.size
    have h3w := HB3.out.size
    have HTB : Hid (TurnX H w w4) := TurnX.trans (Turn.of_below HB3.out) (HT4.out.mono (fun k hk => hk.1))
    have hH4 : ∀ k, H k → k < w4.heap.size := fun k g => by have := hH k g; omega
    have HLV : Hid (LivesX H w4 b (submitF d ⟨3, sec3 xs, cutB xd, 0⟩)) := LivesX.of (DevAt.intro HD4'.out) (fun k hk => hk.1) (fun k g => by have := hH k g; omega)
    by_cases hnb : bits BinOp.and .i64 xn 1 = 1
    · rw [if_pos hnb] at HP
      go_wp2_with fail
      refine (x_complete 0 HLV.out HO2.out HK.out hH4).mono ?_
      rintro e w5 ⟨rfl, hd5, hb5⟩
      have HD5 : Hid (LivesX H w5 b (completeF (submitF d ⟨3, sec3 xs, cutB xd, 0⟩) 0).1) := hd5
      have HB5 : Hid (TurnX H w w5) := TurnX.trans HTB.out hb5
      clear hd5 hb5
      obtain ⟨v5, hv5⟩ : ∃ v5, v5 = Value.tuple #[(completeF (submitF d ⟨3, sec3 xs, cutB xd, 0⟩) 0).2.1.agg, errV (completeF (submitF d ⟨3, sec3 xs, cutB xd, 0⟩) 0).2.2] := ⟨_, rfl⟩
      rw [← hv5]
      clear hv5
      go_wp2
      go_end0
      exact ⟨⟨_, rfl⟩, by rw [HP.out]; exact HD5.out, HB5.out⟩
    · rw [if_neg hnb] at HP
      have hnb2 : (bits BinOp.and IntKind.i64 xn 1 == 1) = false := by simpa using hnb
      go_wp2
      go_end0
      exact ⟨⟨_, rfl⟩, by rw [HP.out]; exact HLV.out, HTB.out⟩
  · have hKK : kindO xk = 2 := by unfold kindO; rw [if_neg hbit]
    have hbit2 : (bits BinOp.and IntKind.i64 xk 1 == 1) = false := by simpa using hbit
    rw [hKK] at HC
    rw [HC.out] at HO2 HK HP
    clear hKK HC
    go_enter Try.func12, Try.ntmps12
    go_wp2
    refine wp_region_held_drew (S := fun W => W.cell? ⟨z, 0, none⟩ = some (.pointer (some ⟨b, 0, none⟩)) ∧ W.cell? ⟨w.heap.size, 2, none⟩ = some (.int .i64 xs) ∧ W.cell? ⟨w.heap.size, 3, none⟩ = some (.string xd)) (by kernel_rfl) (by exact ⟨cz, c2, c3⟩) (fun hHeld => ?_)
    change wpAnyH _ _ _ _ _ 15 (Array.replicate 15 false) _ _
    refine wpAnyH_take (i := 0) (oi := _) (v := _) (by simp only [List.getElem?_toArray, List.getElem?_cons_zero]; rfl) (by kernel_rfl) (by kernel_rfl) (by kernel_rfl) (by exact fun _ _ _ h => h) (Or.inl ⟨by rfl, by intro w' hSw; (try dsimp only at hSw); first | (go_simp; done) | (go_simp; with_reducible rfl)⟩) hHeld ?_
    simp only [Act.put, List.setIfInBounds_toArray, List.set_cons_zero, List.set_cons_succ]
    refine wpAnyH_take (i := 1) (oi := _) (v := _) (by simp only [List.getElem?_toArray, List.getElem?_cons_succ, List.getElem?_cons_zero]; rfl) (by kernel_rfl) (by kernel_rfl) (by kernel_rfl) (by exact fun _ _ _ h => h) (Or.inl ⟨by rfl, by intro w' hSw; (try dsimp only at hSw); first | (go_simp; done) | (go_simp; with_reducible rfl)⟩) hHeld ?_
    simp only [Act.put, List.setIfInBounds_toArray, List.set_cons_zero, List.set_cons_succ]
    refine wpAnyH_take (i := 2) (oi := _) (v := _) (by simp only [List.getElem?_toArray, List.getElem?_cons_succ, List.getElem?_cons_zero]; rfl) (by kernel_rfl) (by kernel_rfl) (by kernel_rfl) (by exact fun _ _ _ h => h) (Or.inl ⟨by rfl, by intro w' hSw; (try dsimp only at hSw); first | (go_simp; done) | (go_simp; with_reducible rfl)⟩) hHeld ?_
    simp only [Act.put, List.setIfInBounds_toArray, List.set_cons_zero, List.set_cons_succ]
    refine wpAnyH_take (i := 3) (oi := _) (v := _) (by simp only [List.getElem?_toArray, List.getElem?_cons_succ, List.getElem?_cons_zero]; rfl) (by kernel_rfl) (by kernel_rfl) (by kernel_rfl) (by exact fun _ _ _ h => h) (Or.inl ⟨by rfl, by intro w' hSw; (try dsimp only at hSw); first | (go_simp; done) | (go_simp; with_reducible rfl)⟩) hHeld ?_
    simp only [Act.put, List.setIfInBounds_toArray, List.set_cons_zero, List.set_cons_succ]
    refine wpAnyH_take (i := 4) (oi := _) (v := _) (by simp only [List.getElem?_toArray, List.getElem?_cons_succ, List.getElem?_cons_zero]; rfl) (by kernel_rfl) (by kernel_rfl) (by kernel_rfl) (by exact fun _ _ _ h => h) (Or.inl ⟨by rfl, by intro w' hSw; (try dsimp only at hSw); first | (go_simp; done) | (go_simp; with_reducible rfl)⟩) hHeld ?_
    simp only [Act.put, List.setIfInBounds_toArray, List.set_cons_zero, List.set_cons_succ]
    refine wpAnyH_take (i := 5) (oi := _) (v := _) (by simp only [List.getElem?_toArray, List.getElem?_cons_succ, List.getElem?_cons_zero]; rfl) (by kernel_rfl) (by kernel_rfl) (by kernel_rfl) (by exact fun _ _ _ h => h) (Or.inl ⟨by rfl, by intro w' hSw; (try dsimp only at hSw); first | (go_simp; done) | (go_simp; with_reducible rfl)⟩) hHeld ?_
    simp only [Act.put, List.setIfInBounds_toArray, List.set_cons_zero, List.set_cons_succ]
    refine wpAnyH_take (i := 6) (oi := _) (v := _) (by simp only [List.getElem?_toArray, List.getElem?_cons_succ, List.getElem?_cons_zero]; rfl) (by kernel_rfl) (by kernel_rfl) (by kernel_rfl) (by exact fun _ _ _ h => h) (Or.inl ⟨by rfl, by intro w' hSw; (try dsimp only at hSw); first | (go_simp; done) | (go_simp; with_reducible rfl)⟩) hHeld ?_
    simp only [Act.put, List.setIfInBounds_toArray, List.set_cons_zero, List.set_cons_succ]
    refine wpAnyH_take (i := 7) (oi := _) (v := _) (by simp only [List.getElem?_toArray, List.getElem?_cons_succ, List.getElem?_cons_zero]; rfl) (by kernel_rfl) (by kernel_rfl) (by kernel_rfl) (by exact fun _ _ _ h => h) (Or.inl ⟨by rfl, by intro w' hSw; (try dsimp only at hSw); first | (go_simp; done) | (go_simp; with_reducible rfl)⟩) hHeld ?_
    simp only [Act.put, List.setIfInBounds_toArray, List.set_cons_zero, List.set_cons_succ]
    refine wpAnyH_take (i := 8) (oi := _) (v := _) (by simp only [List.getElem?_toArray, List.getElem?_cons_succ, List.getElem?_cons_zero]; rfl) (by kernel_rfl) (by kernel_rfl) (by kernel_rfl) (by exact fun _ _ _ h => h) (Or.inl ⟨by rfl, by intro w' hSw; (try dsimp only at hSw); first | (go_simp; done) | (go_simp; with_reducible rfl)⟩) hHeld ?_
    simp only [Act.put, List.setIfInBounds_toArray, List.set_cons_zero, List.set_cons_succ]
    refine wpAnyH_take (i := 9) (oi := _) (v := _) (by simp only [List.getElem?_toArray, List.getElem?_cons_succ, List.getElem?_cons_zero]; rfl) (by kernel_rfl) (by kernel_rfl) (by kernel_rfl) (by exact fun _ _ _ h => h) (Or.inl ⟨by rfl, by intro w' hSw; (try dsimp only at hSw); first | (go_simp; done) | (go_simp; with_reducible rfl)⟩) hHeld ?_
    simp only [Act.put, List.setIfInBounds_toArray, List.set_cons_zero, List.set_cons_succ]
    refine wpAnyH_take (i := 10) (oi := _) (v := _) (by simp only [List.getElem?_toArray, List.getElem?_cons_succ, List.getElem?_cons_zero]; rfl) (by kernel_rfl) (by kernel_rfl) (by kernel_rfl) (by exact fun _ _ _ h => h) (Or.inl ⟨by rfl, by intro w' hSw; (try dsimp only at hSw); first | (go_simp; done) | (go_simp; with_reducible rfl)⟩) hHeld ?_
    simp only [Act.put, List.setIfInBounds_toArray, List.set_cons_zero, List.set_cons_succ]
    refine wpAnyH_take (i := 11) (oi := _) (v := _) (by simp only [List.getElem?_toArray, List.getElem?_cons_succ, List.getElem?_cons_zero]; rfl) (by kernel_rfl) (by kernel_rfl) (by kernel_rfl) (by exact fun _ _ _ h => h) (Or.inl ⟨by rfl, by intro w' hSw; (try dsimp only at hSw); first | (go_simp; done) | (go_simp; with_reducible rfl)⟩) hHeld ?_
    simp only [Act.put, List.setIfInBounds_toArray, List.set_cons_zero, List.set_cons_succ]
    refine wpAnyH_ready (rs := [12]) (by kernel_rfl) (by simp) ?_
    refine AllReadyH.cons rfl (fun K hK => ?_) AllReadyH.nil
    go_simp
    go_wp2_with fail
    refine (full_any _ hy _).mono ?_
    rintro r w3 ⟨rfl, hb3⟩
    rw [HCUT.out]
    have HB3 : Hid (Below w.heap.size w w3) := HBP.out.trans (Below.mono (B := (w.alloc (Obj.cells #[.int .i64 xw, .int .i64 xk, .int .i64 xs, .string xd, .int .i64 xn, .slice ka kl kc] 33)).heap.size) ⟨hb3.os, hb3.tape, hb3.output, hb3.size, hb3.block⟩ HBP.out.size)
    have HP3 : Hid (w3.heap[w.heap.size]? = some (.cells #[.int .i64 xw, .int .i64 xk, .int .i64 xs, .string xd, .int .i64 xn, .slice ka kl kc] 33 (0, 0))) := (hb3.block _ (by simp)).trans HPP.out
    have HZ3 : Hid (w3.heap[z]? = some (.cells #[.pointer (some ⟨b, 0, none⟩)] 27 (0, 0))) := (HB3.out.block _ (lt_of_heap HZ.out)).trans HZ.out
    refine hK.out _ _ ⟨cell_of_heap HZ3.out 0 _ rfl, cell_of_heap HP3.out 2 _ rfl, cell_of_heap HP3.out 3 _ rfl⟩ (fun hHeld => ?_)
    clear hK K hb3
    refine wpAnyH_take (i := 13) (oi := _) (v := _) (by simp only [List.getElem?_toArray, List.getElem?_cons_succ, List.getElem?_cons_zero]; rfl) (by kernel_rfl) (by kernel_rfl) (by kernel_rfl) (by exact fun _ _ _ h => h) (Or.inl ⟨by rfl, by intro w' hSw; (try dsimp only at hSw); first | (go_simp; done) | (go_simp; with_reducible rfl)⟩) hHeld ?_
    simp only [Act.put, List.setIfInBounds_toArray, List.set_cons_zero, List.set_cons_succ]
    refine wpAnyH_ready (rs := [14]) (by kernel_rfl) (by simp) ?_
    refine AllReadyH.cons rfl (fun K hK => ?_) AllReadyH.nil
    go_simp
    go_wp2_with fail
    refine (submit_any ⟨2, sec3 xs, cutB xd, 0⟩ (HDI.out.below HB3.out) HO.out).mono ?_
    rintro r w4 ⟨rfl, hd4, ht4⟩
    have HD4 : Hid (DevAt w4 (Grow (fun q => ¬ H q ∧ q < w.heap.size) w3 w4) b (submitF d ⟨2, sec3 xs, cutB xd, 0⟩)) := hd4
    have HT4 : Hid (Turn (fun q => ¬ H q ∧ q < w.heap.size) w3 w4) := ht4
    have HP4 : Hid (w4.heap[w.heap.size]? = some (.cells #[.int .i64 xw, .int .i64 xk, .int .i64 xs, .string xd, .int .i64 xn, .slice ka kl kc] 33 (0, 0))) := (ht4.block _ (lt_of_heap HP3.out) (fun g => Nat.lt_irrefl _ g.2)).trans HP3.out
    have HZ4 : Hid (w4.heap[z]? = some (.cells #[.pointer (some ⟨b, 0, none⟩)] 27 (0, 0))) := (ht4.block _ (lt_of_heap HZ3.out) (fun g => g.1 hzH)).trans HZ3.out
    generalize errV (submitN d ⟨2, sec3 xs, cutB xd, 0⟩) = ev
    refine hK.out _ _ ⟨cell_of_heap HZ4.out 0 _ rfl, cell_of_heap HP4.out 2 _ rfl, cell_of_heap HP4.out 3 _ rfl⟩ (fun hHeld => ?_)
    clear hK K hd4 ht4
    refine wpAnyH_done (by kernel_rfl) ?_ _
    clear hHeld cz c1 c2 c3
    obtain ⟨vl, vc, vw, vk, hd4⟩ := HD4.out
    have HD4' : Hid (DevIn w4 (Grow (fun q => ¬ H q ∧ q < w.heap.size) w3 w4) b (submitF d ⟨2, sec3 xs, cutB xd, 0⟩) vl vc vw vk) := hd4
    clear hd4
    have cz := cell_of_heap HZ4.out 0 _ rfl
    have c4 := cell_of_heap HP4.out 4 _ rfl
    have h43 := HT4.out.size
    have h3w := HB3.out.size
    have HTB : Hid (TurnX H w w4) := TurnX.trans (Turn.of_below HB3.out) (HT4.out.mono (fun k hk => hk.1))
    have hH4 : ∀ k, H k → k < w4.heap.size := fun k g => by have := hH k g; omega
    have HLV : Hid (LivesX H w4 b (submitF d ⟨2, sec3 xs, cutB xd, 0⟩)) := LivesX.of (DevAt.intro HD4'.out) (fun k hk => hk.1) (fun k g => by have := hH k g; omega)
    by_cases hnb : bits BinOp.and .i64 xn 1 = 1
    · rw [if_pos hnb] at HP
      go_wp2_with fail
      refine (x_complete 0 HLV.out HO2.out HK.out hH4).mono ?_
      rintro e w5 ⟨rfl, hd5, hb5⟩
      have HD5 : Hid (LivesX H w5 b (completeF (submitF d ⟨2, sec3 xs, cutB xd, 0⟩) 0).1) := hd5
      have HB5 : Hid (TurnX H w w5) := TurnX.trans HTB.out hb5
      clear hd5 hb5
      obtain ⟨v5, hv5⟩ : ∃ v5, v5 = Value.tuple #[(completeF (submitF d ⟨2, sec3 xs, cutB xd, 0⟩) 0).2.1.agg, errV (completeF (submitF d ⟨2, sec3 xs, cutB xd, 0⟩) 0).2.2] := ⟨_, rfl⟩
      rw [← hv5]
      clear hv5
      go_wp2
      go_end0
      exact ⟨⟨_, rfl⟩, by rw [HP.out]; exact HD5.out, HB5.out⟩
    · rw [if_neg hnb] at HP
      have hnb2 : (bits BinOp.and IntKind.i64 xn 1 == 1) = false := by simpa using hnb
      go_wp2
      go_end0
      exact ⟨⟨_, rfl⟩, by rw [HP.out]; exact HLV.out, HTB.out⟩

theorem putC_w (x : Act6) : isW (putC x) = true := by
  have := kindO_w x.kind
  unfold isW putC
  rcases this with h | h <;> simp [h]
theorem Four.putS {W : Int → Prop} {A : Int → ByteArray} {K : Nat} {d : Dev} (h : Four W A K d) (x : Act6) (hW : W (sec3 x.sector)) : Four W A (K + 1) (submitF d (putC x)) :=
  h.submit (putC x) (putC_w x) (sec3_in _).1 (sec3_in _).2 (cutB_size _) hW
theorem Four.put {W : Int → Prop} {A : Int → ByteArray} {K : Nat} {d : Dev} (h : Four W A K d) (x : Act6) (hW : W (sec3 x.sector)) : Four W A (K + 1) (putF d x) := by
  unfold putF
  split
  · exact (h.putS x hW).complete.1
  · exact h.putS x hW
/-- A put, of a device of four sectors. -/
theorem four_put {W : Int → Prop} {A : Int → ByteArray} {K : Nat} {d : Dev} (x : Act6) (hx : ActWf x) (w : World) (H : Nat → Prop) (z b : Nat) (hF : Four W A K d) (hK : K ≤ 900) (hW : W (sec3 x.sector)) (hz : w.heap[z]? = some (.cells #[.pointer (some ⟨b, 0, none⟩)] 27 (0, 0))) (hzH : H z) (hd : LivesX H w b d) (hH : ∀ k, H k → k < w.heap.size) :
    Calls Try.prog 12 #[x.agg, .pointer (some ⟨z, 0, none⟩)] w fun e w' => (∃ u, e = .returned u) ∧ LivesX H w' b (putF d x) ∧ TurnX H w w' :=
  put_any x hx w H z b d hz hzH hd hH (hF.ok (by omega)) ((hF.putS x hW).ok (by omega)) (by rw [(hF.putS x hW).keep]; exact Nat.zero_le _)

end Go.Proofs.Ytkfphmhnaelflaa.Nv
