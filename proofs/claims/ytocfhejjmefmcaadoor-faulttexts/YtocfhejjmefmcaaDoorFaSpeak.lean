/-
  'speaks' of layer 2's statements answers true, and turns nothing that was there. Condition: the words, the powers of ten and errors.errorType lie as their initialisers lay them.
-/
import Derived.Test.YtocfhejjmefmcaaDoorFaIs2
import Derived.Test.YtocfhejjmefmcaaDoorFaTexts
import Derived.Test.YtocfhejjmefmcaaDoorFaNumber
namespace Go.Proofs.YtocfhejjmefmcaaDoor.Fa
open Go.ChangeShapes Go.WideShapes Go.ChangeAt Go.RowKit Go.Proofs.Fa
open Go.Proofs.YtocfhejjmefmcaaDoor.As (ErrT)

/-- What the listed variables hold. -/
def Laid (w : World) : Prop := WordsAt w ∧ Tab w ∧ ErrT w
theorem Laid.below {w w' : World} (h : Laid w) (hb : Below w.heap.size w w') : Laid w' := ⟨h.1.below hb, h.2.1.below hb, h.2.2.below hb h.2.2.lt⟩

def rd : ByteArray := ⟨#[114, 101, 97, 100]⟩
def y1 : Layer := { join := false, op := rd, pos := 5, k := 0, lo := by decide, hi := by decide, sz := by decide }
theorem sp_text : (textB (some (some 5)) [y1]).toList = [114, 101, 97, 100, 32, 53, 58, 32, 115, 117, 109] := by decide +kernel
theorem sp_num : numberV (flat [y1] ⟨#[]⟩ (some (some 5))) = 5 := by decide +kernel
theorem sp_kind : kindOf ⟨#[114, 101, 97, 100]⟩ (-1) ⟨#[114, 101, 97, 100]⟩ 5 = true := by decide +kernel
theorem sp_word : (wordF 2).toList = [113, 117, 101, 117, 101] := by decide +kernel

theorem err_one {w : World} {g : Nat} (h : w.heap[g]? = some (.cells #[.string ⟨#[114, 101, 97, 100]⟩, .int .i64 5, .iface 36 (.int .i64 5)] 46 (0, 0))) : ErrAt w (some (some 5)) [y1] (.iface 44 (.pointer (some ⟨g, 0, none⟩))) :=
  .inr ⟨rfl, g, _, rfl, h, rfl⟩

set_option maxRecDepth 100000
set_option maxHeartbeats 4000000
theorem speaks_any (w : World) (hL : Laid w) :
    Calls Tryd.prog 8 #[] w fun e w' => e = .returned (.bool true) ∧ Below w.heap.size w w' := by
  have HL : Hid (Laid w) := hL
  clear hL
  go_enter Tryd.func8, Tryd.ntmps8
  go_wp2_with fail
  refine (wrap_some _ _ _ _ _).mono ?_
  rintro e w1 ⟨rfl, hw1⟩
  have H1 : Hid (w1.heap[w.heap.size]? = some (.cells #[.string ⟨#[114, 101, 97, 100]⟩, .int .i64 5, .iface 36 (.int .i64 5)] 46 (0, 0))) := by
    show w1.heap[w.heap.size]? = _
    rw [hw1]; exact heap_alloc_new _ _
  have HB1 : Hid (Below w.heap.size w w1) := by rw [hw1]; exact (Below.refl _ _).alloc (Nat.le_refl _) _
  clear hw1
  have HL1 : Hid (Laid w1) := HL.out.below HB1.out
  have hs1 := HB1.out.size
  obtain ⟨tx, HTX, q1⟩ : ∃ tx : ByteArray, Hid (textB (some (some 5)) [y1] = tx) ∧ tx.toList = [114, 101, 97, 100, 32, 53, 58, 32, 115, 117, 109] := ⟨_, rfl, sp_text⟩
  obtain ⟨wd, HWD, q2⟩ : ∃ wd : ByteArray, Hid (wordF 2 = wd) ∧ wd.toList = [113, 117, 101, 117, 101] := ⟨_, rfl, sp_word⟩
  have HS : Hid (numberV (flat [y1] ⟨#[]⟩ (some (some 5))) = 5) := sp_num
  go_wp2_with fail
  refine (Text_any (some (some 5)) [y1] _ _ w1 (by decide) (err_one H1.out) HL1.out.1 HL1.out.2.1).mono ?_
  rintro e w2 ⟨rfl, hb2⟩
  rw [HTX.out]
  have HB2 : Hid (Below w.heap.size w w2) := HB1.out.trans (hb2.mono hs1)
  have H2 : Hid (w2.heap[w.heap.size]? = some (.cells #[.string ⟨#[114, 101, 97, 100]⟩, .int .i64 5, .iface 36 (.int .i64 5)] 46 (0, 0))) := (hb2.block _ (lt_of_heap H1.out)).trans H1.out
  have hlt2 : w.heap.size < w2.heap.size := lt_of_heap H2.out
  clear hb2
  go_wp2_with fail
  refine (Is_errno _ _ 5 w2 true (fun w' => w' = w2) ((is_one _ _ _ 5 5 w2 H2.out).mono fun e w' h => ⟨h.1, h.2⟩)).mono ?_
  rintro e w2' ⟨rfl, rfl⟩
  have H3 : Hid ((w2'.alloc (.cells #[.string ⟨#[114, 101, 97, 100]⟩, .int .i64 (-1), .nilIface] 46)).heap[w.heap.size]? = some (.cells #[.string ⟨#[114, 101, 97, 100]⟩, .int .i64 5, .iface 36 (.int .i64 5)] 46 (0, 0))) := (((Below.refl _ w2').alloc (Nat.le_refl _) _).block _ hlt2).trans H2.out
  have H4 : Hid ((w2'.alloc (.cells #[.string ⟨#[114, 101, 97, 100]⟩, .int .i64 (-1), .nilIface] 46)).heap[w2'.heap.size]? = some (.cells #[.string ⟨#[114, 101, 97, 100]⟩, .int .i64 (-1), .nilIface] 46 (0, 0))) := heap_alloc_new _ _
  have HB3 : Hid (Below w.heap.size w (w2'.alloc (.cells #[.string ⟨#[114, 101, 97, 100]⟩, .int .i64 (-1), .nilIface] 46))) := HB2.out.alloc HB2.out.size _
  go_wp2_with fail
  refine (Is_fault _ _ _ _ true (fun w' => w' = (w2'.alloc (.cells #[.string ⟨#[114, 101, 97, 100]⟩, .int .i64 (-1), .nilIface] 46)).drew) ((is_kind_one _ _ _ _ _ _ _ _ (Nat.ne_of_lt hlt2) H3.out H4.out sp_kind).mono fun e w' h => ⟨h.1, h.2⟩)).mono ?_
  rintro e w3 ⟨rfl, hw3⟩
  have HB4 : Hid (Below w.heap.size w w3) := by rw [hw3]; exact HB3.out.drew
  have H5 : Hid (w3.heap[w.heap.size]? = some (.cells #[.string ⟨#[114, 101, 97, 100]⟩, .int .i64 5, .iface 36 (.int .i64 5)] 46 (0, 0))) := by rw [hw3]; exact H3.out
  have HL4 : Hid (Laid w3) := HL.out.below HB4.out
  clear hw3 H3 H4 HB3
  go_wp2_with fail
  refine (Number_any (some (some 5)) (by simp) [y1] _ _ w3 (by decide) (err_one H5.out) HL4.out.2.2).mono ?_
  rintro e w4 ⟨rfl, hb4⟩
  rw [HS.out]
  have HB5 : Hid (Below w.heap.size w w4) := HB4.out.trans (hb4.mono HB4.out.size)
  have HL5 : Hid (Laid w4) := HL.out.below HB5.out
  clear hb4
  go_wp2_with fail
  refine (errno_any 2 w4 HL5.out.1).mono ?_
  rintro e w4 ⟨rfl, rfl⟩
  rw [HWD.out]
  go_wp2
  go_ret
  exact ⟨rfl, HB5.out⟩

end Go.Proofs.YtocfhejjmefmcaaDoor.Fa
