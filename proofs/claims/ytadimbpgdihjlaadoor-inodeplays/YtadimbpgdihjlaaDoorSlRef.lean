/-
  The document's Seal and Open, by their contracts. Condition: the texts are short.
-/
import Derived.Test.YtadimbpgdihjlaaDoorSlKind
namespace Go.Proofs.YtadimbpgdihjlaaDoor.Mk
open Go.ChangeShapes Go.WideShapes Go.ChangeAt Go.RowKit Go.Lib
open Go.Proofs.YtadimbpgdihjlaaDoor.Le (ret_int streq_yes streq_no refput_any putF byteAt)

theorem conv_two (w : World) (x y : Int) : Sem.run Tryd.prog (convert 96 9 (Value.slice (some ⟨w.heap.size, 0, none⟩) 2 2)) (w.alloc (Obj.cells #[Value.int IntKind.u8 x, Value.int IntKind.u8 y] 5)) = .ok (.string (strOfNums [x, y])) (w.alloc (Obj.cells #[Value.int IntKind.u8 x, Value.int IntKind.u8 y] 5)) :=
  run_convert_bytes_arg (P := Tryd.prog) _ 96 5 Tryd.underlying96 Tryd.underlying5 w.heap.size 0 2 2 [x, y] rfl (by
    intro i hi
    rw [World.cell?_alloc_new]
    match i, hi with
    | 0, _ => rfl
    | 1, _ => rfl) 9 Tryd.underlying9

theorem conv_two' (w : World) (x y : Int) : Sem.run Tryd.prog (convert 96 9 (Value.slice (some ⟨w.heap.size, 0, none⟩) 2 2)) (w.alloc (Obj.cells #[Value.int IntKind.u8 x, Value.int IntKind.u8 y] 5)).drew = .ok (.string (strOfNums [x, y])) (w.alloc (Obj.cells #[Value.int IntKind.u8 x, Value.int IntKind.u8 y] 5)).drew :=
  conv_two w.drew x y

theorem head_two {k : Int} (h1 : 1 ≤ k) (h2 : k ≤ 255) : (⟨#[80, 72]⟩ : ByteArray) ++ strOfNums [k, 0] = headS k := by
  apply ext_bytes
  rw [headS_data h1 h2]
  simp [strOfNums]

/-- All ahead of the sum, with as many noughts as there are. -/
def partS (k : Int) (body : ByteArray) (m : Nat) : ByteArray := ⟨((headS k).data.toList ++ (body.data.toList ++ List.replicate m 0)).toArray⟩
theorem partS_zero (k : Int) (body : ByteArray) : headS k ++ body = partS k body 0 := by
  apply ext_bytes
  rw [ByteArray.data_append]; simp [partS]
theorem partS_succ (k : Int) (body : ByteArray) (m : Nat) : partS k body m ++ ⟨#[0]⟩ = partS k body (m + 1) := by
  apply ext_bytes
  rw [ByteArray.data_append, partS, partS, List.replicate_succ']
  simp
theorem partS_size {k : Int} (h1 : 1 ≤ k) (h2 : k ≤ 255) (body : ByteArray) (m : Nat) : (partS k body m).size = 4 + body.size + m := by
  have := headS_size h1 h2
  show (List.toArray _).size = _
  rw [List.size_toArray, List.length_append, List.length_append, List.length_replicate]
  simp [this]; omega

def strLen : Value → Nat | .string b => b.size | _ => 0
theorem partS_full (k : Int) (body : ByteArray) : partS k body (504 - body.size) = aheadS k body := rfl

set_option maxRecDepth 100000 in
set_option maxHeartbeats 400000 in
theorem refseal_yes (k : Int) (body : ByteArray) (w : World) (h1 : 1 ≤ k) (h2 : k ≤ 255) (hb : body.size ≤ 504) :
    Calls Tryd.prog 38 #[.int .i64 k, .string body] w fun e w' => e = .returned (.tuple #[.string (sealS k body), .int .i64 0]) ∧ Below w.heap.size w w' := by
  have hc := conv_two w
  have hd := head_two h1 h2
  have hz0 := headS_size h1 h2
  have hz2 : ∀ x y, (strOfNums [x, y]).size = 2 := by intro x y; simp [strOfNums_size]
  have hp := partS_zero k body
  have hb' : ¬ (504 : Int) < body.size := by omega
  go_enter Tryd.func38, Tryd.ntmps38
  have HS : Hid (sealS k body = aheadS k body ++ putF (sumN (aheadS k body).data.toList) 4) := rfl
  have HZ : Hid ((aheadS k body).size = 508) := aheadS_size h1 h2 hb
  have hz4 : (putF (sumN (aheadS k body).data.toList) 4).size = 4 := sumS_size (aheadS k body)
  have hlt4 := sumN_lt (aheadS k body).data.toList
  go_wp2
  go_loop [6] (fun t => ∃ m : Nat, m ≤ 504 - body.size ∧ t = .string (partS k body m)) (fun t => 508 - strLen t)
  case atStart => exact ⟨0, Nat.zero_le _, rfl⟩
  case round =>
    obtain ⟨m, hm, rfl⟩ := hrel
    have hzp := partS_size h1 h2 body m
    have hsu := partS_succ k body m
    by_cases hlt : m < 504 - body.size
    · have hq : (4 + (body.size : Int) + m) < 508 := by omega
      go_wp2
      go_round
      case rel => exact ⟨m + 1, by omega, rfl⟩
      case measure => simp only [strLen]; rw [hzp, partS_size h1 h2]; omega
    · obtain rfl : m = 504 - body.size := by omega
      rw [partS_full]
      have hzq := HZ.out
      clear hzp hsu hc hd hp
      go_wp2_with fail
      refine (refsum_any _ _ (by unfold maxLen; rw [HZ.out]; omega)).mono ?_
      rintro e w1 ⟨rfl, rfl⟩
      go_wp2_with fail
      refine (refput_any _ _ _ (by omega)).mono ?_
      rintro e w2 ⟨rfl, hb2⟩
      go_wp2
      go_ret2
      exact ⟨by rw [HS.out]; rfl, ((Below.refl _ _).alloc (Nat.le_refl _) _).trans (hb2.mono (by simp))⟩

set_option maxRecDepth 100000 in
set_option maxHeartbeats 400000 in
theorem refseal_no (k : Int) (body : ByteArray) (w : World) (hm : body.size ≤ maxLen) (h : ¬ (1 ≤ k ∧ k ≤ 255) ∨ ¬ body.size ≤ 504) :
    Calls Tryd.prog 38 #[.int .i64 k, .string body] w fun e w' => e = .returned (.tuple #[.string ByteArray.empty, .int .i64 (sealF k body).2]) ∧ Below w.heap.size w w' := by
  unfold maxLen at hm
  by_cases hk : 1 ≤ k ∧ k ≤ 255
  · obtain ⟨k1, k2⟩ := hk
    have hb : ¬ body.size ≤ 504 := by rcases h with h | h; exact absurd ⟨k1, k2⟩ h; exact h
    have HS : Hid ((sealF k body).2 = 10) := by show (sealF k body).2 = 10; unfold sealF; rw [if_pos ⟨k1, k2⟩, if_neg hb]
    have hb' : (504 : Int) < body.size := by omega
    clear h
    go_enter Tryd.func38, Tryd.ntmps38
    go_wp2
    go_ret2
    exact ⟨by rw [HS.out]; rfl, Below.refl _ _⟩
  · have HS : Hid ((sealF k body).2 = 1) := by show (sealF k body).2 = 1; unfold sealF; rw [if_neg hk]
    clear h
    go_enter Tryd.func38, Tryd.ntmps38
    go_wp2
    all_goals
      go_ret2
      exact ⟨by rw [HS.out]; rfl, Below.refl _ _⟩

theorem refseal_any (k : Int) (body : ByteArray) (w : World) (hm : body.size ≤ maxLen) :
    Calls Tryd.prog 38 #[.int .i64 k, .string body] w fun e w' => e = .returned (.tuple #[.string (sealF k body).1, .int .i64 (sealF k body).2]) ∧ Below w.heap.size w w' := by
  by_cases hk : 1 ≤ k ∧ k ≤ 255
  · by_cases hb : body.size ≤ 504
    · have e : sealF k body = (sealS k body, 0) := by unfold sealF; rw [if_pos hk, if_pos hb]
      rw [e]; exact refseal_yes k body w hk.1 hk.2 hb
    · have e : (sealF k body).1 = ByteArray.empty := by unfold sealF; rw [if_pos hk, if_neg hb]
      rw [e]; exact refseal_no k body w hm (.inr hb)
  · have e : (sealF k body).1 = ByteArray.empty := by unfold sealF; rw [if_neg hk]
    rw [e]; exact refseal_no k body w hm (.inl hk)

end Go.Proofs.YtadimbpgdihjlaaDoor.Mk
