/-
  The statement on nothing that failed, and on faults without a cause, as a walk. Condition: the words, the powers of ten and errors.errorType lie as their initialisers lay them.
-/
import Derived.Test.YtiaigboichmepaaDoorFaSpeak
import Derived.Test.YtiaigboichmepaaDoorFaOps0
import Derived.Test.YtiaigboichmepaaDoorFaDig
namespace Go.Proofs.YtiaigboichmepaaDoor.Fa
open Go.ChangeShapes Go.WideShapes Go.ChangeAt Go.RowKit Go.Proofs.Fa
open Go.Proofs.YtiaigboichmepaaDoor.As (ErrT)

theorem text_none : (textB (some none) []).toList = [63] := by decide +kernel
theorem text_bare (y : Layer) (hj : y.join = false) : textB none [y] = y.op ++ ⟨#[32]⟩ ++ itoaB y.pos ++ ⟨#[58, 32, 63]⟩ := by
  apply ba_ext
  simp [textB, textOf, flat, wordK, faultW, hj]
theorem num_bare (y : Layer) (hj : y.join = false) : numberV (flat [y] ⟨#[]⟩ none) = 17 := by
  simp [numberV, flat, numOf, numK, hj]
theorem kind_same (op : ByteArray) (n : Int) : kindOf op n op n = true := by simp [kindOf]

set_option maxRecDepth 100000
set_option maxHeartbeats 4000000
theorem faultNil_calls (op : ByteArray) (n : Int) (w : World) (_ : op.size ≤ maxLen) (hn : (Lit.int .i64 n).wf = true) (hL : Laid w) :
    Calls Tryd.prog 7 #[.string op, .int .i64 n] w fun e w' => e = .returned (.bool true) ∧ Below w.heap.size w w' := by
  have HL : Hid (Laid w) := hL
  clear hL
  by_cases h1 : (100 : Int) < op.size
  · go_enter Tryd.func7, Tryd.ntmps7
    go_wp2_with fail
    refine (speaks_any _ HL.out).mono ?_
    rintro e w1 ⟨rfl, hb1⟩
    go_wp2
    go_ret
    exact ⟨rfl, hb1⟩
  · have hlo : -9223372036854775808 ≤ n ∧ n ≤ 9223372036854775807 := by
      simp only [Lit.wf, IntKind.min, IntKind.max, IntKind.signed, IntKind.bits, Bool.and_eq_true, decide_eq_true_eq, if_true] at hn
      omega
    clear hn
    obtain ⟨y, hj, hyo, hyp⟩ : ∃ y : Layer, y.join = false ∧ y.op = op ∧ y.pos = n := ⟨{ join := false, op := op, pos := n, k := 0, lo := hlo.1, hi := hlo.2, sz := by omega }, rfl, rfl, rfl⟩
    obtain ⟨tn, HTN, q1⟩ : ∃ tx : ByteArray, Hid (textB (some none) [] = tx) ∧ tx.toList = [63] := ⟨_, rfl, text_none⟩
    have HTB : Hid (textB none [y] = op ++ ⟨#[32]⟩ ++ itoaB n ++ ⟨#[58, 32, 63]⟩) := by show _ = _; rw [text_bare y hj, hyo, hyp]
    have HNB : Hid (numberV (flat [y] ⟨#[]⟩ none) = 17) := num_bare y hj
    have hzd := itoaB_size n hlo.1 hlo.2
    have hqs : ∀ x : ByteArray, (x.toList == x.toList) = true := by intro x; simp
    have HY : Hid (∀ (W : World) (g : Nat), W.heap[g]? = some (.cells #[.string op, .int .i64 n, .nilIface] 46 (0, 0)) → ErrAt W none [y] (.iface 44 (.pointer (some ⟨g, 0, none⟩)))) := fun W g h => .inr ⟨hj, g, _, rfl, by rw [hyo, hyp]; exact h, rfl⟩
    clear hj hyo hyp
    go_enter Tryd.func7, Tryd.ntmps7
    go_wp2_with fail
    refine (speaks_any _ HL.out).mono ?_
    rintro e w1 ⟨rfl, hb1⟩
    go_wp2_with fail
    refine (Find_nil _).mono ?_
    rintro e w2 ⟨rfl, hb2⟩
    have HB2 : Hid (Below w.heap.size w w2) := hb1.trans (hb2.mono hb1.size)
    clear hb1 hb2
    go_wp2_with fail
    obtain ⟨w3, hw3⟩ : ∃ w3, w3 = (w2.alloc (Obj.cells #[.string ⟨#[]⟩, .int .i64 0, .nilIface] 46)).alloc (Obj.cells #[.string op, .int .i64 n, .nilIface] 46) := ⟨_, rfl⟩
    rw [← hw3]
    have H3 : Hid (w3.heap[w2.heap.size + 1]? = some (.cells #[.string op, .int .i64 n, .nilIface] 46 (0, 0))) := by
      show w3.heap[w2.heap.size + 1]? = _
      rw [hw3]
      have := heap_alloc_new (w2.alloc (Obj.cells #[.string ⟨#[]⟩, .int .i64 0, .nilIface] 46)) (Obj.cells #[.string op, .int .i64 n, .nilIface] 46)
      rw [World.size_alloc] at this
      exact this
    have HB3 : Hid (Below w.heap.size w w3) := by
      rw [hw3]; exact (HB2.out.alloc HB2.out.size _).alloc (by have := HB2.out.size; simp; omega) _
    clear hw3
    generalize w2.heap.size + 1 = g at *
    have HL3 : Hid (Laid w3) := HL.out.below HB3.out
    refine (wrap_nil _ _ _).mono ?_
    rintro e w3 ⟨rfl, rfl⟩
    go_wp2_with fail
    refine (Text_nil _).mono ?_
    rintro e w3 ⟨rfl, rfl⟩
    go_wp2_with fail
    refine (Error_any (some none) [] none w3 (by decide) rfl HL3.out.1 HL3.out.2.1).mono ?_
    rintro e w4 ⟨rfl, hb4⟩
    rw [HTN.out]
    have HB4 : Hid (Below w.heap.size w w4) := HB3.out.trans (hb4.mono HB3.out.size)
    have H4 : Hid (w4.heap[g]? = some (.cells #[.string op, .int .i64 n, .nilIface] 46 (0, 0))) := (hb4.block _ (lt_of_heap H3.out)).trans H3.out
    clear hb4 H3 HB3 HL3
    go_wp2_with fail
    refine (unwrap_nil _).mono ?_
    rintro e w4 ⟨rfl, rfl⟩
    go_wp2_with fail
    refine (is_nil _ _).mono ?_
    rintro e w4 ⟨rfl, rfl⟩
    go_wp2_with fail
    refine (Ops_base none (by simp) w4).mono ?_
    rintro e w5 ⟨rfl, hb5⟩
    have HB5 : Hid (Below w.heap.size w w5) := HB4.out.trans (hb5.mono HB4.out.size)
    have H5 : Hid (w5.heap[g]? = some (.cells #[.string op, .int .i64 n, .nilIface] 46 (0, 0))) := (hb5.block _ (lt_of_heap H4.out)).trans H4.out
    have HL5 : Hid (Laid w5) := HL.out.below HB5.out
    clear hb5 H4 HB4
    go_wp2_with fail
    refine (Number_any none (by simp) [y] _ _ w5 (by simp) (HY.out w5 g H5.out) HL5.out.2.2).mono ?_
    rintro e w6 ⟨rfl, hb6⟩
    rw [HNB.out]
    have HB6 : Hid (Below w.heap.size w w6) := HB5.out.trans (hb6.mono HB5.out.size)
    have H6 : Hid (w6.heap[g]? = some (.cells #[.string op, .int .i64 n, .nilIface] 46 (0, 0))) := (hb6.block _ (lt_of_heap H5.out)).trans H5.out
    clear hb6 H5 HB5 HL5
    go_wp2_with fail
    obtain ⟨w7, hw7⟩ : ∃ w7, w7 = w6.alloc (Obj.cells #[.string op, .int .i64 n, .nilIface] 46) := ⟨_, rfl⟩
    rw [← hw7]
    have HB7 : Hid (Below w.heap.size w w7) := by rw [hw7]; exact HB6.out.alloc HB6.out.size _
    have H7 : Hid (w7.heap[g]? = some (.cells #[.string op, .int .i64 n, .nilIface] 46 (0, 0))) := by
      show w7.heap[g]? = _
      rw [hw7]; exact (((Below.refl _ w6).alloc (Nat.le_refl _) _).block _ (lt_of_heap H6.out)).trans H6.out
    have H7' : Hid (w7.heap[w6.heap.size]? = some (.cells #[.string op, .int .i64 n, .nilIface] 46 (0, 0))) := by
      show w7.heap[w6.heap.size]? = _
      rw [hw7]; exact heap_alloc_new _ _
    clear hw7 HB6
    refine (is_kind g w6.heap.size op op n n .nilIface w7 H7.out H7'.out).mono ?_
    rintro e w8 ⟨rfl, hw8⟩
    rw [kind_same]
    have HB8 : Hid (Below w.heap.size w w8) := by rw [hw8]; exact HB7.out.drew
    have H8 : Hid (w8.heap[g]? = some (.cells #[.string op, .int .i64 n, .nilIface] 46 (0, 0))) := by rw [hw8]; exact H7.out
    have HL8 : Hid (Laid w8) := HL.out.below HB8.out
    clear hw8 H7 H7' HB7 H6
    go_wp2_with fail
    refine (is_errno g 5 w8).mono ?_
    rintro e w8 ⟨rfl, rfl⟩
    go_wp2_with fail
    refine (Error_any none [y] _ w8 (by simp) (HY.out w8 g H8.out) HL8.out.1 HL8.out.2.1).mono ?_
    rintro e w9 ⟨rfl, hb9⟩
    rw [HTB.out]
    have HB9 : Hid (Below w.heap.size w w9) := HB8.out.trans (hb9.mono HB8.out.size)
    clear hb9 H8 HB8 HL8
    go_wp2_with fail
    refine (digits_any n.natAbs n w9 (Nat.le_refl _) hlo.1 hlo.2).mono ?_
    rintro e w10 ⟨rfl, hb10⟩
    go_wp2
    go_ret
    exact ⟨rfl, HB9.out.trans (hb10.mono HB9.out.size)⟩

end Go.Proofs.YtiaigboichmepaaDoor.Fa
