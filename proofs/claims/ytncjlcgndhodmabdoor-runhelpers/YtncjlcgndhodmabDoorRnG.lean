/-
  Layer 20's Program, of programs of registers, helpers and Exit. Condition: the program is short, the page is one, the key may be.
-/
import Derived.Test.YtncjlcgndhodmabDoorRnT
import Derived.Test.YtncjlcgndhodmabDoorLeM
namespace Go.Proofs.YtncjlcgndhodmabDoor.Rn
open Go.ChangeShapes Go.WideShapes Go.ChangeAt Go.RowKit
open Go.Proofs.YtncjlcgndhodmabDoor.Cd
open Go.Proofs.YtncjlcgndhodmabDoor.Nv (lt_of_heap lt_of_cell cell_of_heap free_of_heap)

set_option maxRecDepth 100000
set_option maxHeartbeats 2000000

/-- What Program answers. -/
def resV (x : Int × Mach × Nat) : Value :=
  if x.1 = 0 then .tuple #[.agg #[.int .i64 x.2.1.code, .string x.2.1.value, .int .i64 x.2.1.next, .int .i64 x.2.2], .nilIface]
  else .tuple #[.agg #[.int .i64 0, .string ⟨#[]⟩, .int .i64 0, .int .i64 x.2.2], .iface 49 (.int .i64 x.1)]

theorem res_run (tm : Array Value) (rb : Nat) (W : World) (a0 a1 a2 a3 er : Value) (h2 : tm[10]? = some (.pointer (some ⟨rb, 0, none⟩))) (h3 : tm.getD 11 undef = er) (h : W.heap[rb]? = some (.cells #[a0, a1, a2, a3] 34 (0, 0))) :
    (results Tryd.f9 tm).run Tryd.prog W = .ok (.tuple #[.agg #[a0, a1, a2, a3], er]) W := by
  have c0 := cell_of_heap h 0 _ rfl
  have c1 := cell_of_heap h 1 _ rfl
  have c2 := cell_of_heap h 2 _ rfl
  have c3 := cell_of_heap h 3 _ rfl
  clear h
  subst h3
  simp [results, Tryd.f9, go_sem, h2, c0, c1, c2, c3]

theorem runR_ended {l : List In4} {n s : Nat} {m : Mach} (h : m.ended = true) : runR l n m s = (0, m, s) := by unfold runR; rw [if_pos h]
theorem runR_out {l : List In4} {n s : Nat} {m : Mach} (h : m.ended = false) (h2 : m.at' = l.length) : runR l n m s = (15, m, s) := by unfold runR; rw [if_neg (by rw [h]; decide), if_pos h2]
theorem runR_fuel {l : List In4} {s : Nat} {m : Mach} (h : m.ended = false) (h2 : m.at' ≠ l.length) : runR l 0 m s = (12, m, s) := by unfold runR; rw [if_neg (by rw [h]; decide), if_neg h2]
theorem runR_step {l : List In4} {n s : Nat} {m : Mach} (h : m.ended = false) (h2 : m.at' ≠ l.length) : runR l (n + 1) m s = if (stepR l m).1 = true then runR l n (stepR l m).2 (s + 1) else (15, (stepR l m).2, s + 1) := by
  conv => lhs; unfold runR
  rw [if_neg (by rw [h]; decide), if_neg h2]

theorem program_few (pv : Value) (l : List In4) (page key : ByteArray) (sb fuel : Nat) (w : World) (h : InsAt w pv l) (hl : l.length ≤ 1000) (hf : Few l) (hpg : page.size = 512) (hk0 : 1 ≤ key.size) (hk : key.size ≤ 16) (hfu : fuel ≤ 1000000) :
    Calls Tryd.prog 9 #[pv, .string page, .string key, .pointer (some ⟨sb, 0, none⟩), .int .i64 fuel] w fun r w' => r = .returned (resV (runR l fuel (mach0 page key) 0)) ∧ Below w.heap.size w w' := by
  have HI : Hid (InsAt w pv l) := h
  have HF : Hid (Few l) := hf
  have hno : ∀ x ∈ l, x.op ≠ 17 ∧ x.op ≠ 18 := fun x hx => by
    have := (hf x hx).2
    omega
  have HBG : Hid (∀ w', Below w.heap.size w w' → _) := fun w' hb => begin_plain pv l page key sb w' (h.below hb) hl hno hk
  obtain ⟨pa, pc, hpv⟩ := h.slice
  obtain ⟨n, hn⟩ : ∃ n, l.length = n := ⟨_, rfl⟩
  have HLN : Hid (l.length = n) := hn
  rw [hn] at hpv hl
  subst hpv
  clear h hno hn hf
  have hp1 : ((page.size : Int) != 512) = false := by rw [bne_eq_false_iff_eq]; omega
  have hke : key.toList.isEmpty = false := Le.isEmpty_false (fun e => by rw [e] at hk0; exact absurd hk0 (by decide))
  have hkl : decide ((16 : Int) < (key.size : Int)) = false := decide_eq_false (by omega)
  have HPG : Hid (page.size ≤ 1000000) := by show _ ≤ _; omega
  obtain ⟨w0, hw0⟩ : ∃ w0, w0 = w.alloc (Obj.cells #[.int .i64 0, .string ⟨#[]⟩, .int .i64 0, .int .i64 0] 34) := ⟨_, rfl⟩
  have HB0 : Hid (Below w.heap.size w w0) := by rw [hw0]; exact (Below.refl _ _).alloc (Nat.le_refl _) _
  have HR0 : Hid (w0.heap[w.heap.size]? = some (.cells #[.int .i64 0, .string ⟨#[]⟩, .int .i64 0, .int .i64 0] 34 (0, 0))) := by rw [hw0]; exact heap_alloc_new w _
  have HIV : Hid (Inv l page key (mach0 page key)) := ⟨rfl, rfl, (fun i _ => by show -1099511627776 ≤ (if i = 1 then (key.size : Int) else 0) ∧ (if i = 1 then (key.size : Int) else 0) ≤ 1099511627776; split <;> omega), 0, rfl, Nat.zero_le _⟩
  obtain ⟨RES, hRES⟩ : ∃ RES, runR l fuel (mach0 page key) 0 = RES := ⟨_, rfl⟩
  have HRS : Hid (runR l fuel (mach0 page key) 0 = RES) := hRES
  rw [hRES]
  clear hRES
  go_enter Tryd.func9, Tryd.ntmps9
  go_wp2_with fail
  rw [← hw0]
  clear hw0
  refine (HBG.out _ HB0.out).mono ?_
  rintro r w1 ⟨b, ev, rfl, hbb, hm1, hb1⟩
  have HB1 : Hid (Below w.heap.size w w1) := HB0.out.trans (hb1.mono HB0.out.size)
  have HM1 : Hid (MAt w1 b (.slice pa n pc) ev sb (.slice none 0 0) (mach0 page key)) := hm1
  have HR1 : Hid (w1.heap[w.heap.size]? = some (.cells #[.int .i64 0, .string ⟨#[]⟩, .int .i64 0, .int .i64 0] 34 (0, 0))) := (hb1.block _ (lt_of_heap HR0.out)).trans HR0.out
  have hbw : w.heap.size < b := Nat.lt_of_lt_of_le (lt_of_heap HR0.out) hbb
  clear hb1 hm1 hbb HB0 HR0 HBG hp1 hke hkl
  go_wp2_with fail
  go_loopw [13] (fun iv wr => ∃ (s : Nat) (m : Mach), iv = .int .i64 s ∧ s ≤ fuel ∧ MAt wr b (.slice pa n pc) ev sb (.slice none 0 0) m ∧ Inv l page key m ∧ runR l (fuel - s) m s = RES ∧ Below w.heap.size w wr ∧ wr.heap[w.heap.size]? = some (.cells #[.int .i64 0, .string ⟨#[]⟩, .int .i64 0, .int .i64 0] 34 (0, 0))) (fun iv _ => fuel - (intOf iv).toNat)
  case atStart => exact ⟨0, _, rfl, Nat.zero_le _, HM1.out, HIV.out, HRS.out, HB1.out, HR1.out⟩
  case round =>
    obtain ⟨s, m, rfl, hs, hm, hv, hres, hB, hR⟩ := hrel
    have HM : Hid (MAt wr b (.slice pa n pc) ev sb (.slice none 0 0) m) := hm
    have HV : Hid (Inv l page key m) := hv
    have HRE : Hid (runR l (fuel - s) m s = RES) := hres
    have HB : Hid (Below w.heap.size w wr) := hB
    have HR : Hid (wr.heap[w.heap.size]? = some (.cells #[.int .i64 0, .string ⟨#[]⟩, .int .i64 0, .int .i64 0] 34 (0, 0))) := hR
    clear hv hres hB hR HRS HIV HM1 HB1 HR1
    have y31 := hm.cEnded
    have y29 := hm.cAt
    have r0 := cell_of_heap HR.out 0 _ rfl
    have r1 := cell_of_heap HR.out 1 _ rfl
    have r2 := cell_of_heap HR.out 2 _ rfl
    have r3 := cell_of_heap HR.out 3 _ rfl
    have f0 := free_of_heap HR.out 0
    have f1 := free_of_heap HR.out 1
    have f2 := free_of_heap HR.out 2
    have f3 := free_of_heap HR.out 3
    clear hm
    by_cases he : m.ended = true
    · have HRX : Hid (RES = (0, m, s)) := by show _ = _; rw [← HRE.out]; exact runR_ended he
      rw [he] at y31
      have y35 := HM.out.cSteps
      have g35 := HM.out.free 35
      have HM2 := HM.out.sSteps (s : Int)
      have y32 := HM.out.cCode
      have y33 := HM.out.cValue
      have y34 := HM.out.cNext
      have hne : w.heap.size ≠ b := by omega
      have HR2 : Hid ((wr.setCell ⟨b, 35, none⟩ (.int .i64 s)).heap[w.heap.size]? = some (.cells #[.int .i64 0, .string ⟨#[]⟩, .int .i64 0, .int .i64 0] 34 (0, 0))) := (heap_setCell_other wr ⟨b, 35, none⟩ w.heap.size _ hne).trans HR.out
      have HB2 : Hid (Below w.heap.size w (wr.setCell ⟨b, 35, none⟩ (.int .i64 s))) := HB.out.setCell (p := ⟨b, 35, none⟩) (Nat.le_of_lt hbw) _
      clear y29 he
      go_wp2
      refine bodyPost_ret (res_run _ w.heap.size _ (.int .i64 m.code) (.string m.value) (.int .i64 m.next) (.int .i64 s) .nilIface rfl rfl (put4_heap HR2.out _ _ _ _)) rfl ?_
      refine ⟨?_, put4_below HB2.out _ (Nat.le_refl _) _ _ _ _⟩
      rw [HRX.out]
      rfl
    have he0 : m.ended = false := by cases hx : m.ended with | true => exact absurd hx he | false => rfl
    rw [he0] at y31
    clear he
    by_cases hat : m.at' = l.length
    · have HRX : Hid (RES = (15, m, s)) := by show _ = _; rw [← HRE.out]; exact runR_out he0 hat
      rw [hat, HLN.out] at y29
      clear hat he0
      go_wp2
      refine bodyPost_ret (res_run _ w.heap.size _ (.int .i64 0) (.string ⟨#[]⟩) (.int .i64 0) (.int .i64 s) _ rfl rfl (put4_heap HR.out _ _ _ _)) rfl ?_
      refine ⟨?_, put4_below HB.out _ (Nat.le_refl _) _ _ _ _⟩
      rw [HRX.out]
      rfl
    have hat2 : (m.at' == (n : Int)) = false := by rw [beq_eq_false_iff_ne, ← HLN.out]; exact hat
    by_cases hfs : fuel ≤ s
    · have hse : fuel - s = 0 := by omega
      have HRX : Hid (RES = (12, m, s)) := by show _ = _; rw [← HRE.out, hse]; exact runR_fuel he0 hat
      have hd : decide ((fuel : Int) ≤ (s : Int)) = true := decide_eq_true (by omega)
      clear hat he0 hse
      go_wp2
      refine bodyPost_ret (res_run _ w.heap.size _ (.int .i64 0) (.string ⟨#[]⟩) (.int .i64 0) (.int .i64 s) _ rfl rfl (put4_heap HR.out _ _ _ _)) rfl ?_
      refine ⟨?_, put4_below HB.out _ (Nat.le_refl _) _ _ _ _⟩
      rw [HRX.out]
      rfl
    have hd : decide ((fuel : Int) ≤ (s : Int)) = false := decide_eq_false (by omega)
    have hse : fuel - s = (fuel - (s + 1)) + 1 := by omega
    have HRE2 : Hid ((if (stepR l m).1 = true then runR l (fuel - (s + 1)) (stepR l m).2 (s + 1) else (15, (stepR l m).2, s + 1)) = RES) := by
      show _ = _
      rw [← HRE.out, hse]
      exact (runR_step he0 hat).symm
    have HSI : Hid (Inv l page key (stepR l m).2) := stepR_inv HF.out HV.out
    have HST := step_all HM.out l (HI.out.below HB.out) page key HV.out hat HF.out HPG.out
    have HST' : Hid (Calls _ _ _ _ _) := HST
    have hsl : s < fuel := by omega
    clear HST hse he0 hat hfs HRE
    generalize stepR l m = p at *
    obtain ⟨p1, p2⟩ := p
    dsimp only at HRE2 HSI
    go_wp2_with fail
    refine HST'.out.mono ?_
    rintro r w2 ⟨rfl, hm2, ho2⟩
    have HM2 : Hid (MAt w2 b (.slice pa n pc) ev sb (.slice none 0 0) p2) := hm2
    have HB2 : Hid (Below w.heap.size w w2) := HB.out.trans (ho2.below (Nat.le_of_lt hbw) HB.out.size)
    have HR2 : Hid (w2.heap[w.heap.size]? = some (.cells #[.int .i64 0, .string ⟨#[]⟩, .int .i64 0, .int .i64 0] 34 (0, 0))) := (ho2.2.2.2.2 _ (lt_of_heap HR.out) (by omega)).trans HR.out
    clear hm2 ho2 HB HR HM HST' y31 y29 r0 r1 r2 r3 f0 f1 f2 f3
    cases p1
    · have HRX : Hid (RES = (15, p2, s + 1)) := by show _ = _; rw [← HRE2.out]; rfl
      have r0 := cell_of_heap HR2.out 0 _ rfl
      have r1 := cell_of_heap HR2.out 1 _ rfl
      have r2 := cell_of_heap HR2.out 2 _ rfl
      have r3 := cell_of_heap HR2.out 3 _ rfl
      have f0 := free_of_heap HR2.out 0
      have f1 := free_of_heap HR2.out 1
      have f2 := free_of_heap HR2.out 2
      have f3 := free_of_heap HR2.out 3
      go_wp2
      refine bodyPost_ret (res_run _ w.heap.size _ (.int .i64 0) (.string ⟨#[]⟩) (.int .i64 0) (.int .i64 ((s + 1 : Nat) : Int)) _ rfl rfl (put4_heap HR2.out _ _ _ _)) rfl ?_
      refine ⟨?_, put4_below HB2.out _ (Nat.le_refl _) _ _ _ _⟩
      rw [HRX.out]
      rfl
    · go_wp2_with fail
      go_roundw
      case rel => exact ⟨s + 1, p2, by go_num, by omega, HM2.out, HSI.out, HRE2.out, HB2.out, HR2.out⟩
      case measure => simp [intOf]; omega

end Go.Proofs.YtncjlcgndhodmabDoor.Rn
