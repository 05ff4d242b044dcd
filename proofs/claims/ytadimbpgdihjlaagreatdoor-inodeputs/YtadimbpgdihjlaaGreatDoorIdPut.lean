/-
  The program's Put. Condition: the table of four steps holds what its initialiser lays.
-/
import Derived.Test.YtadimbpgdihjlaaGreatDoorIdB
namespace Go.Proofs.YtadimbpgdihjlaaGreatDoor.Id
open Go.ChangeShapes Go.WideShapes Go.ChangeAt Go.RowKit Go.Proofs.Fa
open Go.Proofs.YtadimbpgdihjlaaGreatDoor.Le (putF numF OutS num_any num_any4 string_some)
open Go.Proofs.YtadimbpgdihjlaaGreatDoor.Mk (NibAt sealS seal_yes)

variable {w : World} {B : Nat}
set_option maxRecDepth 100000
set_option maxHeartbeats 4000000

theorem out_alloc {w : World} {b : Nat} {xs : List UInt8} (h : OutS w b (some xs)) (o : Obj) : OutS (w.alloc o) b (some xs) := by
  obtain ⟨v, hh, hr⟩ := h
  exact ⟨v, (Below.heap_alloc _ _ _ (lt_of_heap hh)).trans hh, World.ownsRow.alloc hr o⟩
theorem out_apart {w : World} {b : Nat} {xs : List UInt8} (h : OutS w b (some xs)) (o : Obj) : Le.Apart (w.alloc o) b w.heap.size := by
  obtain ⟨v, hh, hr⟩ := h
  have hlt := lt_of_heap hh
  refine ⟨by omega, fun v' l' h' => ?_⟩
  rw [(Below.heap_alloc w o b hlt).trans hh] at h'
  cases h'
  intro e
  have := row_lt hr _ e
  omega

theorem put_no (ver : Int) (v : Value) (l : List Ext) (hr : Row w B v l) (hn : l.length ≤ 1000) (hwf : ∀ e ∈ l, -9223372036854775808 ≤ e.pos ∧ e.pos ≤ 9223372036854775807) (hp : rightB ver l 2048 = false) :
    Calls Tryz.prog 7 #[ino ver v] w fun r w' => r = .returned (.tuple #[.string ByteArray.empty, errV 1]) ∧ Below w.heap.size w w' := by
  obtain ⟨a, cap, rfl, hmx⟩ := row_slice hr
  have hri := right_any (w := w.alloc (Obj.cells #[.int .i64 ver, .slice a l.length cap] 26)) ver (.slice a l.length cap) l 2048 (World.ownsRow.alloc hr _) hn hwf
  have HB0 : Hid (Below w.heap.size w (w.alloc (Obj.cells #[.int .i64 ver, .slice a l.length cap] 26))) := (Below.refl _ _).alloc (Nat.le_refl _) _
  rw [hp] at hri
  simp only [ino] at hri ⊢
  generalize l.length = n at *
  clear hp hwf hr hn hmx
  go_enter Tryz.func7, Tryz.ntmps7
  go_wp2_with fail
  refine hri.mono ?_
  rintro r w1 ⟨rfl, hb1⟩
  have HB1 : Hid (Below w.heap.size w w1) := HB0.out.trans (hb1.mono HB0.out.size)
  clear hb1 hri
  go_wp2
  go_ret2
  exact ⟨rfl, HB1.out⟩

theorem put_yes (ver : Int) (v : Value) (l : List Ext) (hr : Row w B v l) (hwf : ∀ e ∈ l, -9223372036854775808 ≤ e.pos ∧ e.pos ≤ 9223372036854775807) (hp : rightB ver l 2048 = true) (hn : NibAt w) :
    Calls Tryz.prog 7 #[ino ver v] w fun r w' => r = .returned (.tuple #[.string (sealS 6 (bodyI ver l)), .nilIface]) ∧ Below w.heap.size w w' := by
  obtain ⟨h0, h1, h36, hok⟩ := right_parts hp
  have hbz := bodyI_size hp
  obtain ⟨n, hln⟩ : ∃ n, l.length = n := ⟨_, rfl⟩
  obtain ⟨a, cap, rfl, hmx⟩ := row_slice hr
  have hri := right_any (w := w.alloc (Obj.cells #[.int .i64 ver, .slice a l.length cap] 26)) ver (.slice a l.length cap) l 2048 (World.ownsRow.alloc hr _) (by omega) hwf
  rw [hp] at hri
  rw [hln] at hri hmx ⊢
  rw [hln] at hr
  simp only [ino] at hri ⊢
  have HR : Hid (Row w B (.slice a n cap) l) := hr
  have HN : Hid (NibAt w) := hn
  have HOK : Hid (OkL l) := hok
  have HLN : Hid (l.length = n) := hln
  have HBB : Hid (bodyI ver l = ⟨(bytI ver l n).toArray⟩) := by show _ = _; rw [← hln]; rfl
  have HLEN : Hid (∀ k, k ≤ n → (bytI ver l k).length = 7 + 4 * k) := fun k hk => bytI_length h0 h1 h36 hok k (by omega)
  have HF1 : Hid (numF (some []) ver 6 = some (putF ver 6).data.toList ∧ (putF ver 6).data.toList.length = 6) := numF_in [] ver 6 (by decide) (by decide) h0 (by show ver < 281474976710656; omega)
  have HF2 : Hid (numF (some (putF ver 6).data.toList) n 1 = some (bytI ver l 0)) := by
    have h := (numF_in (putF ver 6).data.toList n 1 (by decide) (by decide) (by omega) (by show (n : Int) < 256; omega)).1
    rw [bytI_zero, hln]
    exact h
  have HB0 : Hid (Below w.heap.size w (w.alloc (Obj.cells #[.int .i64 ver, .slice a n cap] 26))) := (Below.refl _ _).alloc (Nat.le_refl _) _
  have HX0 : Hid ((w.alloc (Obj.cells #[.int .i64 ver, .slice a n cap] 26)).heap[w.heap.size]? = some (.cells #[.int .i64 ver, .slice a n cap] 26 (0, 0))) := heap_alloc_new _ _
  clear hp hwf hr hn hok hln h0 h1
  go_enter Tryz.func7, Tryz.ntmps7
  go_wp2_with fail
  refine hri.mono ?_
  rintro r w1 ⟨rfl, hb1⟩
  have HB1 : Hid (Below w.heap.size w w1) := HB0.out.trans (hb1.mono HB0.out.size)
  have HX1 : Hid (w1.heap[w.heap.size]? = some (.cells #[.int .i64 ver, .slice a n cap] 26 (0, 0))) := (hb1.block _ (lt_of_heap HX0.out)).trans HX0.out
  clear hb1 hri HB0 HX0
  obtain ⟨c0, c1, _, _⟩ := agg2 HX1.out
  obtain ⟨W, hW⟩ : ∃ W, W = w1.alloc (.cells #[.slice none 0 0, .bool false] 60) := ⟨_, rfl⟩
  have HBW : Hid (Below w.heap.size w W) := by rw [hW]; exact HB1.out.alloc HB1.out.size _
  have HXW : Hid (W.heap[w.heap.size]? = some (.cells #[.int .i64 ver, .slice a n cap] 26 (0, 0))) := by rw [hW]; exact (Below.heap_alloc _ _ _ (lt_of_heap HX1.out)).trans HX1.out
  have HOW : Hid (OutS W w1.heap.size (some [])) := by
    rw [hW]
    exact ⟨.slice none 0 0, heap_alloc_new _ _, World.ownsRow_nil _ _ _ _⟩
  have hlt := lt_of_heap HX1.out
  go_wp2_with fail
  rw [← hW]
  clear hW HB1 HX1 c0 c1
  generalize w1.heap.size = ob at *
  refine (num_any W ob (some []) ver 6 HOW.out (fun xs h => by cases h; show (6 : Int) ≤ 2147483647 - 0; omega)).mono ?_
  rintro r w2 ⟨rfl, ho2, hb2⟩
  rw [HF1.out.1] at ho2
  have HO2 : Hid (OutS w2 ob (some (putF ver 6).data.toList)) := ho2
  have HB2 : Hid (Below w.heap.size w w2) := HBW.out.trans (hb2.mono (Nat.le_of_lt hlt))
  have HX2 : Hid (w2.heap[w.heap.size]? = some (.cells #[.int .i64 ver, .slice a n cap] 26 (0, 0))) := (hb2.block _ hlt).trans HXW.out
  clear ho2 hb2 HBW HXW HOW
  obtain ⟨c0, c1, _, _⟩ := agg2 HX2.out
  go_wp2_with fail
  refine (num_any w2 ob (some (putF ver 6).data.toList) n 1 HO2.out (fun xs h => by cases h; rw [HF1.out.2]; omega)).mono ?_
  rintro r w3 ⟨rfl, ho3, hb3⟩
  rw [HF2.out] at ho3
  have HO3 : Hid (OutS w3 ob (some (bytI ver l 0))) := ho3
  have HB3 : Hid (Below w.heap.size w w3) := HB2.out.trans (hb3.mono (Nat.le_of_lt hlt))
  have HX3 : Hid (w3.heap[w.heap.size]? = some (.cells #[.int .i64 ver, .slice a n cap] 26 (0, 0))) := (hb3.block _ hlt).trans HX2.out
  clear ho3 hb3 HB2 HX2 HO2 HF1 HF2 c0 c1
  obtain ⟨c0, c1, _, _⟩ := agg2 HX3.out
  go_wp2_with fail
  go_loopw [23] (fun i wr => ∃ k : Nat, k ≤ n ∧ i = .int .i64 k ∧ OutS wr ob (some (bytI ver l k)) ∧ Below w.heap.size w wr) (fun i _ => n - (intOf i).toNat)
  case atStart => exact ⟨0, Nat.zero_le _, rfl, HO3.out, HB3.out⟩
  case round =>
    clear HX3 HB3 HO3 c0 c1
    obtain ⟨k, hk, rfl, hO, hB'⟩ := hrel
    have HO : Hid (OutS wr ob (some (bytI ver l k))) := hO
    have HB : Hid (Below w.heap.size w wr) := hB'
    clear hO hB'
    by_cases hlt2 : k < n
    · have hRk : Row wr B _ l := row_below HR.out HB.out (Nat.le_refl _)
      obtain ⟨g, cap', he⟩ := row_some hRk (by rw [HLN.out]; omega)
      rw [HLN.out] at he
      cases he
      have hkl : k < l.length := by rw [HLN.out]; exact hlt2
      obtain ⟨e0, e1⟩ := hRk.ext k hkl
      have hcap : n ≤ cap ∧ cap ≤ maxLen := by
        rcases hRk.2 with ⟨hx, _⟩ | ⟨g', cap', cur, hx, _, _, h6, h7, _⟩
        · cases hx
        · cases hx; rw [HLN.out] at h6; omega
      have hkc : (k : Int) ≤ cap := by omega
      have hok := HOK.out _ (List.getElem_mem hkl)
      have hlk := HLEN.out k hk
      have HSU : Hid (bytI ver l (k + 1) = bytI ver l k ++ (putF l[k].pos 2).data.toList ++ (putF l[k].len 2).data.toList) := bytI_succ ver l k hkl
      clear hRk
      generalize l[k] = y at *
      obtain ⟨yp, yl⟩ := y
      unfold Ok at hok
      dsimp only at e0 e1 hok HSU
      have HFA := numF_in (bytI ver l k) yp 2 (by decide) (by decide) hok.1 (by show yp < 65536; omega)
      have HFB : Hid (numF (some (bytI ver l k ++ (putF yp 2).data.toList)) yl 2 = some (bytI ver l (k + 1))) := by
        show _ = _
        rw [HSU.out]
        exact (numF_in _ yl 2 (by decide) (by decide) (by omega) (by show yl < 65536; omega)).1
      have HFA1 : Hid (numF (some (bytI ver l k)) yp 2 = some (bytI ver l k ++ (putF yp 2).data.toList)) := HFA.1
      have HLA : Hid ((bytI ver l k ++ (putF yp 2).data.toList).length = 9 + 4 * k) := by
        show _ = _
        rw [List.length_append, hlk]
        have : ((putF yp 2).data.toList).length = 2 := HFA.2
        omega
      clear HFA HSU
      obtain ⟨wa, hwa⟩ : ∃ wa, wa = wr.alloc (Obj.cells #[.int .i64 yp, .int .i64 yl] 51) := ⟨_, rfl⟩
      have HYA : Hid (wa.heap[wr.heap.size]? = some (.cells #[.int .i64 yp, .int .i64 yl] 51 (0, 0))) := by rw [hwa]; exact heap_alloc_new _ _
      have HBA : Hid (Below w.heap.size w wa) := by rw [hwa]; exact HB.out.alloc HB.out.size _
      have HOA : Hid (OutS wa ob (some (bytI ver l k))) := by rw [hwa]; exact out_alloc HO.out _
      have HAP : Hid (Le.Apart wa ob wr.heap.size) := by rw [hwa]; exact out_apart HO.out _
      obtain ⟨y0, y1, _, _⟩ := agg2 HYA.out
      go_wp2_with fail
      rw [← hwa]
      clear hwa HO HB
      refine (num_any4 wa ob (some (bytI ver l k)) yp 2 HOA.out (fun xs h => by cases h; rw [hlk]; omega)).mono ?_
      rintro r w4 ⟨rfl, ho4, hb4, hf4⟩
      rw [HFA1.out] at ho4
      have HO4 : Hid (OutS w4 ob (some (bytI ver l k ++ (putF yp 2).data.toList))) := ho4
      have HB4 : Hid (Below w.heap.size w w4) := HBA.out.trans (hb4.mono (Nat.le_of_lt hlt))
      have hY4 : w4.heap[wr.heap.size]? = some (.cells #[.int .i64 yp, .int .i64 yl] 51 (0, 0)) := (hf4 _ (lt_of_heap HYA.out) HAP.out).1.trans HYA.out
      obtain ⟨z0, z1, _, _⟩ := agg2 hY4
      clear ho4 hb4 hf4 hY4 HOA HBA HYA HAP y0 y1 e0 e1
      go_wp2_with fail
      refine (num_any w4 ob _ yl 2 HO4.out (fun xs h => by cases h; rw [HLA.out]; omega)).mono ?_
      rintro r w5 ⟨rfl, ho5, hb5⟩
      rw [HFB.out] at ho5
      have HB5 : Hid (Below w.heap.size w w5) := HB4.out.trans (hb5.mono (Nat.le_of_lt hlt))
      have HO5 : Hid (OutS w5 ob (some (bytI ver l (k + 1)))) := ho5
      clear ho5 hb5 z0 z1
      go_wp2
      go_roundw
      case rel => exact ⟨k + 1, by omega, by go_num, HO5.out, HB5.out⟩
      case measure => simp [intOf]; omega
    · obtain rfl : k = n := by omega
      have hst := string_some wr ob (bytI ver l k) HO.out
      rw [← HBB.out] at hst
      go_wp2_with fail
      refine hst.mono ?_
      rintro r w6 ⟨rfl, rfl⟩
      go_wp2_with fail
      refine (seal_yes 6 (bodyI ver l) _ (by decide) (by decide) hbz (HN.out.below HB.out)).mono ?_
      rintro r w7 ⟨rfl, hb7⟩
      have HB7 : Hid (Below w.heap.size w w7) := HB.out.trans (hb7.mono HB.out.size)
      clear hb7
      go_wp2
      go_ret2
      exact ⟨rfl, HB7.out⟩

end Go.Proofs.YtadimbpgdihjlaaGreatDoor.Id
