/-
  The program's Get of any bytes. Condition: they are at most 100000.
-/
import Derived.Test.YtielliiadacbbaaDoorCdGet
import Derived.Test.YtielliiadacbbaaDoorCdForm
namespace Go.Proofs.YtielliiadacbbaaDoor.Cd
open Go.ChangeShapes Go.WideShapes Go.ChangeAt Go.RowKit Go.Proofs.Fa
open Go.Proofs.YtielliiadacbbaaDoor.Nv (lt_of_heap lt_of_cell cell_of_heap free_of_heap)
open Go.Proofs.YtielliiadacbbaaDoor.Le (putF numF OutS num_any4 string_some errV getF leVal)

set_option maxRecDepth 100000
set_option maxHeartbeats 2000000

open Classical in
/-- What is wrong with bytes. -/
noncomputable def getE (s : ByteArray) : Int := if FormP s then (if 1024 < s.size then 10 else if ∀ x ∈ progOf s (s.size / 8), RightP x then 0 else 11) else 4
theorem getE_form {s : ByteArray} (h : ¬ FormP s) : getE s = 4 := if_neg h
theorem getE_long {s : ByteArray} (h : FormP s) (hl : 1024 < s.size) : getE s = 10 := by unfold getE; rw [if_pos h, if_pos hl]
theorem getE_yes {s : ByteArray} (h : FormP s) (hl : s.size ≤ 1024) (hr : ∀ x ∈ progOf s (s.size / 8), RightP x) : getE s = 0 := by unfold getE; rw [if_pos h, if_neg (by omega), if_pos hr]
theorem getE_no {s : ByteArray} (h : FormP s) (hl : s.size ≤ 1024) {x : In4} (hx : x ∈ progOf s (s.size / 8)) (hr : ¬ RightP x) : getE s = 11 := by unfold getE; rw [if_pos h, if_neg (by omega), if_neg (fun hh => hr (hh x hx))]
theorem getE_zero {s : ByteArray} (h : getE s = 0) : FormP s ∧ s.size ≤ 1024 ∧ ∀ x ∈ progOf s (s.size / 8), RightP x := by
  by_cases hf : FormP s
  · by_cases hl : 1024 < s.size
    · rw [getE_long hf hl] at h; cases h
    · by_cases hr : ∀ x ∈ progOf s (s.size / 8), RightP x
      · exact ⟨hf, by omega, hr⟩
      · unfold getE at h
        rw [if_pos hf, if_neg hl, if_neg hr] at h
        cases h
  · rw [getE_form hf] at h; cases h

/-- What Get answers: the program, or nothing. -/
def GotI (w : World) (B : Nat) (v : Value) (s : ByteArray) : Prop := (getE s = 0 ∧ IRow w B v (progOf s (s.size / 8))) ∨ (getE s ≠ 0 ∧ v = .slice none 0 0)

theorem size_toList (S : ByteArray) : S.data.toList.length = S.size := Array.length_toList ..
theorem cut_front (S : ByteArray) (k : Nat) (h : 8 * k + 8 ≤ S.size) : (S.extract (8 * k) S.size).extract 0 8 = S.extract (8 * k) (8 * k + 8) := by
  apply ext_bytes
  rw [extract_data, extract_data, extract_data, List.drop_zero, Nat.sub_zero, List.take_take, show min 8 (S.size - 8 * k) = 8 by omega, show 8 * k + 8 - 8 * k = 8 by omega]
theorem cut_back (S : ByteArray) (k : Nat) (h : 8 * k + 8 ≤ S.size) : (S.extract (8 * k) S.size).extract 8 (S.extract (8 * k) S.size).size = S.extract (8 * (k + 1)) S.size := by
  apply ext_bytes
  have hl := size_toList S
  have e1 : (S.data.toList.drop (8 * k)).take (S.size - 8 * k) = S.data.toList.drop (8 * k) := List.take_of_length_le (by rw [List.length_drop, hl]; omega)
  have e2 : (S.data.toList.drop (8 * (k + 1))).take (S.size - 8 * (k + 1)) = S.data.toList.drop (8 * (k + 1)) := List.take_of_length_le (by rw [List.length_drop, hl]; omega)
  rw [extract_data, extract_data, extract_data, ByteArray.size_extract, e1, e2, List.drop_drop, List.take_of_length_le (by rw [List.length_drop, hl]; omega), show 8 * k + 8 = 8 * (k + 1) by omega]
theorem cut_size (S : ByteArray) (k : Nat) : (S.extract (8 * k) S.size).size = S.size - 8 * k := by rw [ByteArray.size_extract]; omega

theorem ins_at (S : ByteArray) (k : Nat) (h : 8 * k + 8 ≤ S.size) (w : World) :
    Calls Tryd.prog 22 #[.string (S.extract (8 * k) (8 * k + 8))] w fun r w' => r = .returned (.agg #[.int .i64 (insOf S k).op, .int .i64 (insOf S k).d, .int .i64 (insOf S k).s, .int .i64 (insOf S k).imm]) ∧ Below w.heap.size w w' := by
  obtain ⟨hz, hi⟩ := insOf_imm S k h
  have hb : ∀ j, j < 8 → ∀ hi, ((((S.extract (8 * k) (8 * k + 8))[j]'hi).toNat : Nat) : Int) = byteI S (8 * k + j) := fun j hj hi => by
    rw [byteI_yes (by omega), byte_at (s := S) (a := 8 * k) (n := 8) (by omega) hi]
  refine ins_raw _ (S.extract (8 * k + 4) (8 * k + 8)) (insOf S k) (by rw [ByteArray.size_extract]; omega) (hb 0 (by decide)) (hb 1 (by decide)) (hb 2 (by decide)) ?_ ?_ hi (byteI_lt _ _) (byteI_lt _ _) (byteI_lt _ _) w
  · apply ext_bytes
    rw [extract_data, extract_data, extract_data, show 8 * k + 8 - 8 * k = 8 by omega, List.drop_take, List.take_take, List.drop_drop, show 8 * k + 8 - (8 * k + 4) = 4 by omega]
    rfl
  · show getF _ = getF _ - 2147483648 + 2147483648
    omega

theorem get_all (S : ByteArray) (hb : S.size ≤ 100000) (w : World) :
    Calls Tryd.prog 12 #[.string S] w fun r w' => ∃ v, r = .returned (.tuple #[v, errV (getE S)]) ∧ GotI w' w.heap.size v S ∧ Below w.heap.size w w' := by
  go_enter Tryd.func12, Tryd.ntmps12
  go_wp2_with fail
  refine (form_all S hb w).mono ?_
  rintro r w1 ⟨⟨b, rfl, hf⟩, hw1⟩
  subst hw1
  cases b
  · have hn : ¬ FormP S := fun h => Bool.false_ne_true (hf.2 h)
    have HE : Hid (getE S = 4) := getE_form hn
    clear hf hn
    go_wp2_with fail
    go_ret2
    exact ⟨_, by rw [HE.out]; rfl, .inr ⟨by rw [HE.out]; decide, rfl⟩, Below.refl _ _⟩
  have HF : Hid (FormP S) := hf.1 rfl
  clear hf
  by_cases hl : 1024 < S.size
  · have HE : Hid (getE S = 10) := getE_long HF.out hl
    have hd : decide ((1024 : Int) < (S.size : Int)) = true := decide_eq_true (by omega)
    go_wp2_with fail
    go_ret2
    exact ⟨_, by rw [HE.out]; rfl, .inr ⟨by rw [HE.out]; decide, rfl⟩, Below.refl _ _⟩
  have hd : decide ((1024 : Int) < (S.size : Int)) = false := decide_eq_false (by omega)
  obtain ⟨n, hn⟩ : ∃ n, S.size = 8 * n := ⟨S.size / 8, by have := HF.out.1; omega⟩
  have hn8 : S.size / 8 = n := by omega
  have HN : Hid (S.size = 8 * n ∧ S.size / 8 = n ∧ n ≤ 128) := ⟨hn, hn8, by omega⟩
  have HS0 : Hid (S = S.extract (8 * 0) S.size) := by
    show _ = _
    apply ext_bytes
    rw [extract_data, List.take_of_length_le (by rw [List.length_drop, size_toList]; omega)]
    rfl
  clear hn hn8
  go_wp2_with fail
  clear hd hl
  go_loopw [0, 4] (fun sv lv wr => ∃ (k : Nat) (s : ByteArray), k ≤ n ∧ sv = .string s ∧ s = S.extract (8 * k) S.size ∧ IRow wr w1.heap.size lv (progOf S k) ∧ (∀ x ∈ progOf S k, RightP x) ∧ Below w1.heap.size w1 wr) (fun sv _ _ => match sv with | .string s => s.size | _ => 0)
  case atStart => exact ⟨0, S, Nat.zero_le _, rfl, HS0.out, World.ownsRow_nil _ _ _ _, (fun x (hx : x ∈ progOf S 0) => by cases hx), Below.refl _ _⟩
  case round =>
    obtain ⟨k, s, hk, rfl, hsk, hrow, hri, hbel⟩ := hrel
    have HSK : Hid (s = S.extract (8 * k) S.size) := hsk
    have HROW : Hid (IRow wr w1.heap.size u4 (progOf S k)) := hrow
    have HRI0 : Hid (∀ x ∈ progOf S k, RightP x) := hri
    have HB : Hid (Below w1.heap.size w1 wr) := hbel
    have hz := cut_size S k
    rw [← hsk] at hz
    have HZ : Hid (s.size = S.size - 8 * k) := hz
    clear hsk hrow hri hbel hz HS0
    by_cases hlt : k < n
    · have hk8 : 8 * k + 8 ≤ S.size := by have := HN.out.1; omega
      have p1 := cut_front S k hk8
      have p2 := cut_back S k hk8
      rw [← HSK.out] at p1 p2
      have hne : s.toList.isEmpty = false := Le.isEmpty_false (fun e => by have := HZ.out; rw [e] at this; have h0 : (ByteArray.empty).size = 0 := rfl; omega)
      have h8 : 8 ≤ s.size := by have := HZ.out; omega
      have HI : Hid (∀ w, _) := fun w => ins_at S k hk8 w
      have HRI : Hid (∀ w, _) := fun w => right_any (insOf S k) w
      have HTS : Hid (progOf S (k + 1) = progOf S k ++ [insOf S k]) := progOf_succ S k
      have HMEM : Hid (insOf S k ∈ progOf S (S.size / 8)) := by
        show _ ∈ _
        rw [HN.out.2.1]
        exact List.mem_map.2 ⟨k, List.mem_range.2 hlt, rfl⟩
      have hsz8 : 8 ≤ s.size ∧ s.size ≤ s.size := ⟨h8, Nat.le_refl _⟩
      obtain ⟨a4, c4, h4⟩ := HROW.out.slice
      rw [progOf_length] at h4
      subst h4
      clear hk8
      generalize insOf S k = x at *
      go_wp2_with fail
      refine (HI.out _).mono ?_
      rintro r w2 ⟨rfl, hb2⟩
      obtain ⟨w3, hw3⟩ : ∃ w3, w3 = w2.alloc (Obj.cells #[.int .i64 x.op, .int .i64 x.d, .int .i64 x.s, .int .i64 x.imm] 27) := ⟨_, rfl⟩
      have HB2 : Hid (Below w1.heap.size w1 w2) := HB.out.trans (hb2.mono HB.out.size)
      have HB3 : Hid (Below w1.heap.size w1 w3) := by rw [hw3]; exact HB2.out.alloc HB2.out.size _
      have HX3 : Hid (w3.heap[w2.heap.size]? = some (.cells #[.int .i64 x.op, .int .i64 x.d, .int .i64 x.s, .int .i64 x.imm] 27 (0, 0))) := by rw [hw3]; exact heap_alloc_new _ _
      have HR3 : Hid (IRow w3 w1.heap.size (.slice a4 k c4) (progOf S k)) := by rw [hw3]; exact (HROW.out.below hb2).below ((Below.refl _ _).alloc (Nat.le_refl _) _)
      have c0 := cell_of_heap HX3.out 0 _ rfl
      have c1 := cell_of_heap HX3.out 1 _ rfl
      have c2 := cell_of_heap HX3.out 2 _ rfl
      have c3 := cell_of_heap HX3.out 3 _ rfl
      clear hb2 HB2 HROW HB HI
      go_wp2_with fail
      rw [← hw3]
      clear hw3
      go_wp2_with fail
      refine (HRI.out _).mono ?_
      rintro r w4 ⟨rfl, hb4⟩
      have HB4 : Hid (Below w1.heap.size w1 w4) := HB3.out.trans (hb4.mono HB3.out.size)
      have HX4 : Hid (w4.heap[w2.heap.size]? = some (.cells #[.int .i64 x.op, .int .i64 x.d, .int .i64 x.s, .int .i64 x.imm] 27 (0, 0))) := (hb4.block _ (lt_of_heap HX3.out)).trans HX3.out
      have HR4 : Hid (IRow w4 w1.heap.size (.slice a4 k c4) (progOf S k)) := HR3.out.below hb4
      clear hb4 HB3 HX3 HR3 HRI c0 c1 c2 c3
      have c0 := cell_of_heap HX4.out 0 _ rfl
      have c1 := cell_of_heap HX4.out 1 _ rfl
      have c2 := cell_of_heap HX4.out 2 _ rfl
      have c3 := cell_of_heap HX4.out 3 _ rfl
      by_cases hx : RightP x
      · have HX : Hid (RightP x) := hx
        rw [decide_eq_true hx]
        clear hx
        obtain ⟨v5, w5, hrun, hr5, hb5, _⟩ := app_ins HR4.out HB4.out.size (by rw [progOf_length]; have := HN.out.2.2; omega) x
        have HR5 : Hid (IRow w5 w1.heap.size v5 (progOf S (k + 1))) := by show IRow _ _ _ _; rw [HTS.out]; exact hr5
        have HB5 : Hid (Below w1.heap.size w1 w5) := HB4.out.trans hb5
        have P2 : Hid (s.extract 8 s.size = S.extract (8 * (k + 1)) S.size) := p2
        clear hr5 hb5 HR4 HX4 HB4
        clear hsz8 p1 hne p2
        go_wp2_with (at_builtin; refine wpList_append_run rfl _ _ _ rfl _ _ rfl rfl hrun ?_)
        go_roundw
        case rel =>
          refine ⟨k + 1, _, hlt, rfl, P2.out, HR5.out, fun y hy => ?_, HB5.out⟩
          rw [HTS.out] at hy
          rcases List.mem_append.1 hy with hy | hy
          · exact HRI0.out y hy
          · rw [List.mem_singleton.1 hy]; exact HX.out
        case measure =>
          show ByteArray.size _ < s.size
          rw [P2.out, cut_size]
          have := HZ.out
          have := HN.out.1
          omega
      · have HE : Hid (getE S = 11) := getE_no HF.out (by have := HN.out; omega) HMEM.out hx
        rw [decide_eq_false hx]
        clear hx
        go_wp2_with fail
        go_ret2
        exact ⟨_, by rw [HE.out]; rfl, .inr ⟨by rw [HE.out]; decide, rfl⟩, HB4.out⟩
    · have hkn : k = n := by omega
      have hz0 : s.size = 0 := by have := HZ.out; have := HN.out.1; omega
      have hse : s.toList.isEmpty = true := Le.isEmpty_true (ByteArray.size_eq_zero_iff.1 hz0)
      have HP : Hid (progOf S k = progOf S (S.size / 8)) := by show _ = _; rw [HN.out.2.1, hkn]
      have HE : Hid (getE S = 0) := getE_yes HF.out (by have := HN.out; omega) (by rw [← HP.out]; exact HRI0.out)
      have HR5 : Hid (IRow wr w1.heap.size u4 (progOf S (S.size / 8))) := by have := HROW.out; rw [HP.out] at this; exact this
      obtain ⟨a4, c4, h4⟩ := HR5.out.slice
      subst h4
      clear HROW hz0 hkn
      go_wp2_with fail
      go_ret2
      exact ⟨_, by rw [HE.out]; rfl, .inl ⟨HE.out, HR5.out⟩, HB.out⟩

end Go.Proofs.YtielliiadacbbaaDoor.Cd
