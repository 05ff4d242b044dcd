/-
  The program's Get. Condition: the table of four steps holds what its initialiser lays.
-/
import Derived.Test.YtadimbpgdihjlaaGreatDoorIdTake
import Derived.Test.YtadimbpgdihjlaaGreatDoorIdRt
namespace Go.Proofs.YtadimbpgdihjlaaGreatDoor.Id
open Go.ChangeShapes Go.WideShapes Go.ChangeAt Go.RowKit Go.Proofs.Fa
open Go.Proofs.YtadimbpgdihjlaaGreatDoor.Mk (NibAt openF openM_any)

variable {w : World}
set_option maxRecDepth 100000
set_option maxHeartbeats 4000000

theorem getE_take (b : ByteArray) (s : Int) : getE b s = if takeE b = 0 then (if rightB (verG b) (lstG b (cntG b)) s = true then 0 else 17) else 4 := by
  unfold getE takeE
  by_cases h1 : 36 < cntG b
  · rw [if_pos h1, if_pos h1, if_neg (by decide)]
  · rw [if_neg h1, if_neg h1]
    by_cases h2 : restG b (7 + 4 * cntG b) = true
    · rw [if_pos h2, if_pos h2, if_pos rfl]
    · rw [if_neg h2, if_neg h2, if_neg (by decide)]
theorem takeE_four (b : ByteArray) (h : takeE b ≠ 0) : takeE b = 4 := by
  unfold takeE at *
  by_cases h1 : 36 < cntG b
  · rw [if_pos h1]
  · rw [if_neg h1] at h ⊢
    by_cases h2 : restG b (7 + 4 * cntG b) = true
    · rw [if_pos h2] at h; exact absurd rfl h
    · rw [if_neg h2]
theorem cntG_take (b : ByteArray) (h : takeE b = 0) : cntG b ≤ 36 := by
  unfold takeE at h
  by_cases h1 : 36 < cntG b
  · rw [if_pos h1] at h; cases h
  · omega
theorem lstG_bd (b : ByteArray) (hb : b.size = 504) (n : Nat) (hn : n ≤ 36) : ∀ e ∈ lstG b n, 0 ≤ e.pos ∧ e.pos < 65536 ∧ 0 ≤ e.len ∧ e.len < 65536 := by
  intro e he
  unfold lstG at he
  rw [List.mem_map] at he
  obtain ⟨i, hi, rfl⟩ := he
  have := List.mem_range.1 hi
  exact extG_pos b i hb (by omega)

/-- What Get answers of a sound sector. -/
def GetAt (w : World) (b : ByteArray) (s : Int) (r : Ending) (w' : World) : Prop :=
  (∃ ver' v', r = .returned (.tuple #[ino ver' v', errV (getE b s)]) ∧ (getE b s = 0 → ver' = verG b ∧ Row w' w.heap.size v' (lstG b (cntG b))) ∧ (getE b s ≠ 0 → ver' = 0 ∧ v' = .slice none 0 0)) ∧ Below w.heap.size w w'

theorem res_get (tm : Array Value) (rb : Nat) (W : World) (ver : Int) (a : Option Addr) (n c : Nat) (er : Value) (h4 : tm[4]? = some (.pointer (some ⟨rb, 0, none⟩))) (h5 : tm.getD 5 undef = er) (h : W.heap[rb]? = some (.cells #[.int .i64 ver, .slice a n c] 26 (0, 0))) :
    (results Tryz.f12 tm).run Tryz.prog W = .ok (.tuple #[ino ver (.slice a n c), er]) W := by
  obtain ⟨c0, c1, _⟩ := agg2 h
  clear h
  subst h5
  simp [results, Tryz.f12, go_sem, h4, c0, c1, ino]

theorem get_err (sec : ByteArray) (s e : Int) (hn : NibAt w) (ho : (openF 6 sec).2 = e) (he : e ≠ 0) :
    Calls Tryz.prog 12 #[.string sec, .int .i64 s] w fun r w' => r = .returned (.tuple #[ino 0 (.slice none 0 0), errV e]) ∧ Below w.heap.size w w' := by
  obtain ⟨w0, hw0⟩ : ∃ w0, w0 = w.alloc (.cells #[.int .i64 0, .slice none 0 0] 26) := ⟨_, rfl⟩
  have HB0 : Hid (Below w.heap.size w w0) := by rw [hw0]; exact (Below.refl _ _).alloc (Nat.le_refl _) _
  have HR0 : Hid (w0.heap[w.heap.size]? = some (.cells #[.int .i64 0, .slice none 0 0] 26 (0, 0))) := by rw [hw0]; exact heap_alloc_new _ _
  have hO := openM_any 6 sec w0 (hn.below HB0.out)
  rw [ho, Mk.errV_pos he] at hO
  generalize (openF 6 sec).1 = bd at *
  have HE : Hid (errV e = .iface 57 (.int .i64 e)) := if_neg he
  clear ho he hn
  go_enter Tryz.func12, Tryz.ntmps12
  go_wp2_with fail
  rw [← hw0]
  refine hO.mono ?_
  rintro r w1 ⟨rfl, hb1⟩
  have HB1 : Hid (Below w.heap.size w w1) := HB0.out.trans (hb1.mono HB0.out.size)
  have HR1 : Hid (w1.heap[w.heap.size]? = some (.cells #[.int .i64 0, .slice none 0 0] 26 (0, 0))) := (hb1.block _ (lt_of_heap HR0.out)).trans HR0.out
  clear hb1 hO hw0 HB0 HR0
  obtain ⟨r0, r1, f0, f1⟩ := agg2 HR1.out
  go_wp2
  refine bodyPost_ret (res_get _ w.heap.size _ 0 none 0 0 _ rfl rfl (set2_heap HR1.out _ _)) rfl ?_
  exact ⟨by rw [HE.out]; rfl, set2_below HB1.out _ (Nat.le_refl _) _ _⟩

theorem get_any (sec b : ByteArray) (s : Int) (hn : NibAt w) (ho : openF 6 sec = (b, 0)) (hb : b.size = 504) :
    Calls Tryz.prog 12 #[.string sec, .int .i64 s] w fun r w' => GetAt w b s r w' := by
  obtain ⟨w0, hw0⟩ : ∃ w0, w0 = w.alloc (.cells #[.int .i64 0, .slice none 0 0] 26) := ⟨_, rfl⟩
  have HB0 : Hid (Below w.heap.size w w0) := by rw [hw0]; exact (Below.refl _ _).alloc (Nat.le_refl _) _
  have HR0 : Hid (w0.heap[w.heap.size]? = some (.cells #[.int .i64 0, .slice none 0 0] 26 (0, 0))) := by rw [hw0]; exact heap_alloc_new _ _
  have hO := openM_any 6 sec w0 (hn.below HB0.out)
  rw [ho, show Mk.errV ((b, (0 : Int)) : ByteArray × Int).2 = .nilIface from rfl] at hO
  dsimp only at hO
  clear ho hn
  have hT := fun w => take_any (w := w) b hb
  have HG : Hid (getE b s = if takeE b = 0 then (if rightB (verG b) (lstG b (cntG b)) s = true then 0 else 17) else 4) := getE_take b s
  have HE4 : Hid (takeE b ≠ 0 → takeE b = 4) := takeE_four b
  have hle := cntG_take b
  have hbd := lstG_bd b hb
  go_enter Tryz.func12, Tryz.ntmps12
  go_wp2_with fail
  rw [← hw0]
  refine hO.mono ?_
  rintro r w1 ⟨rfl, hb1⟩
  have HB1 : Hid (Below w.heap.size w w1) := HB0.out.trans (hb1.mono HB0.out.size)
  have HR1 : Hid (w1.heap[w.heap.size]? = some (.cells #[.int .i64 0, .slice none 0 0] 26 (0, 0))) := (hb1.block _ (lt_of_heap HR0.out)).trans HR0.out
  clear hb1 hO hw0 HB0 HR0
  go_wp2_with fail
  refine (hT _).mono ?_
  rintro r w2 ⟨⟨ver', v', rfl, hy, hn⟩, hb2⟩
  have HB2 : Hid (Below w.heap.size w w2) := HB1.out.trans (hb2.mono HB1.out.size)
  have HR2 : Hid (w2.heap[w.heap.size]? = some (.cells #[.int .i64 0, .slice none 0 0] 26 (0, 0))) := (hb2.block _ (lt_of_heap HR1.out)).trans HR1.out
  have hlt := lt_of_heap HR1.out
  clear hT hb2 HB1 HR1
  by_cases he : takeE b = 0
  · obtain ⟨rfl, hr⟩ := hy he
    have HG2 : Hid (getE b s = if rightB (verG b) (lstG b (cntG b)) s = true then 0 else 17) := by show _ = _; rw [HG.out, if_pos he]
    have hle := hle he
    rw [he, show errV 0 = .nilIface from rfl]
    have HW : Hid (Row w2 w1.heap.size v' (lstG b (cntG b))) := hr
    clear hy hn HG HE4 he hr
    obtain ⟨xa, xc, rfl, hm⟩ := row_slice HW.out
    have hlg := lstG_length b (cntG b)
    have HLE : Hid (cntG b ≤ 1000) := by show _ ≤ _; omega
    have HWF : Hid (∀ e ∈ lstG b (cntG b), -9223372036854775808 ≤ e.pos ∧ e.pos ≤ 9223372036854775807) := fun e he => by have := hbd (cntG b) hle e he; omega
    rw [hlg] at HW ⊢
    clear hlg hbd hle hm
    simp only [ino]
    have hr := right_any (w := w2.alloc (Obj.cells #[.int .i64 (verG b), .slice xa (cntG b) xc] 26)) (verG b) (.slice xa (cntG b) xc) (lstG b (cntG b)) s (World.ownsRow.alloc HW.out _) (by rw [lstG_length]; exact HLE.out) HWF.out
    simp only [ino] at hr
    have HB3 : Hid (Below w.heap.size w (w2.alloc (Obj.cells #[.int .i64 (verG b), .slice xa (cntG b) xc] 26))) := HB2.out.alloc HB2.out.size _
    have HR3 : Hid ((w2.alloc (Obj.cells #[.int .i64 (verG b), .slice xa (cntG b) xc] 26)).heap[w.heap.size]? = some (.cells #[.int .i64 0, .slice none 0 0] 26 (0, 0))) := (Below.heap_alloc _ _ _ (lt_of_heap HR2.out)).trans HR2.out
    have HY3 : Hid ((w2.alloc (Obj.cells #[.int .i64 (verG b), .slice xa (cntG b) xc] 26)).heap[w2.heap.size]? = some (.cells #[.int .i64 (verG b), .slice xa (cntG b) xc] 26 (0, 0))) := heap_alloc_new _ _
    have HW3 : Hid (Row (w2.alloc (Obj.cells #[.int .i64 (verG b), .slice xa (cntG b) xc] 26)) w1.heap.size (.slice xa (cntG b) xc) (lstG b (cntG b))) := World.ownsRow.alloc HW.out _
    obtain ⟨q, hq⟩ : ∃ q, rightB (verG b) (lstG b (cntG b)) s = q := ⟨_, rfl⟩
    rw [hq] at hr HG2
    clear hq HW HLE HWF
    go_wp2_with fail
    refine hr.mono ?_
    rintro r w4 ⟨rfl, hb4⟩
    have HB4 : Hid (Below w.heap.size w w4) := HB3.out.trans (hb4.mono HB3.out.size)
    have HR4 : Hid (w4.heap[w.heap.size]? = some (.cells #[.int .i64 0, .slice none 0 0] 26 (0, 0))) := (hb4.block _ (lt_of_heap HR3.out)).trans HR3.out
    have HY4 : Hid (w4.heap[w2.heap.size]? = some (.cells #[.int .i64 (verG b), .slice xa (cntG b) xc] 26 (0, 0))) := (hb4.block _ (lt_of_heap HY3.out)).trans HY3.out
    have HW4 : Hid (Row w4 w1.heap.size (.slice xa (cntG b) xc) (lstG b (cntG b))) := row_below HW3.out hb4 (Nat.le_refl _)
    clear hr hb4 HR3 HY3 HB3 HB2 HR2 HW3
    obtain ⟨r0, r1, f0, f1⟩ := agg2 HR4.out
    obtain ⟨y0, y1, _, _⟩ := agg2 HY4.out
    cases q with
    | true =>
      have HG3 : Hid (getE b s = 0) := by show _ = _; rw [HG2.out]; rfl
      clear HG2
      go_wp2
      refine bodyPost_ret (res_get _ w.heap.size _ (verG b) xa (cntG b) xc _ rfl rfl (set2_heap HR4.out _ _)) rfl ?_
      refine ⟨⟨verG b, .slice xa (cntG b) xc, by rw [HG3.out]; rfl, fun _ => ⟨rfl, ?_⟩, fun h => absurd HG3.out h⟩, set2_below HB4.out _ (Nat.le_refl _) _ _⟩
      refine row_base ?_ (Nat.le_of_lt hlt)
      exact row_keep HW4.out (fun g e => by have := row_ge HW4.out g e; rw [heap_setCell_other _ _ _ _ (by show g ≠ w.heap.size; omega), heap_setCell_other _ _ _ _ (by show g ≠ w.heap.size; omega)])
    | false =>
      have HG3 : Hid (getE b s = 17) := by show _ = _; rw [HG2.out]; rfl
      clear HG2
      go_wp2
      refine bodyPost_ret (res_get _ w.heap.size _ 0 none 0 0 _ rfl rfl (set2_heap HR4.out _ _)) rfl ?_
      exact ⟨⟨0, .slice none 0 0, by rw [HG3.out]; rfl, (fun h => by rw [HG3.out] at h; cases h), fun _ => ⟨rfl, rfl⟩⟩, set2_below HB4.out _ (Nat.le_refl _) _ _⟩
  · obtain ⟨rfl, rfl⟩ := hn he
    have HG2 : Hid (getE b s = 4) := by show _ = _; rw [HG.out, if_neg he]
    rw [HE4.out he, show errV 4 = .iface 57 (.int .i64 4) from rfl]
    clear hy hn HG HE4 he hle hbd
    simp only [ino]
    have HB3 : Hid (Below w.heap.size w (w2.alloc (Obj.cells #[.int .i64 0, .slice none 0 0] 26))) := HB2.out.alloc HB2.out.size _
    have HR3 : Hid ((w2.alloc (Obj.cells #[.int .i64 0, .slice none 0 0] 26)).heap[w.heap.size]? = some (.cells #[.int .i64 0, .slice none 0 0] 26 (0, 0))) := (Below.heap_alloc _ _ _ (lt_of_heap HR2.out)).trans HR2.out
    obtain ⟨r0, r1, f0, f1⟩ := agg2 HR3.out
    go_wp2
    refine bodyPost_ret (res_get _ w.heap.size _ 0 none 0 0 _ rfl rfl (set2_heap HR3.out _ _)) rfl ?_
    exact ⟨⟨0, .slice none 0 0, by rw [HG2.out]; rfl, (fun h => by rw [HG2.out] at h; cases h), fun _ => ⟨rfl, rfl⟩⟩, set2_below HB3.out _ (Nat.le_refl _) _ _⟩

end Go.Proofs.YtadimbpgdihjlaaGreatDoor.Id
