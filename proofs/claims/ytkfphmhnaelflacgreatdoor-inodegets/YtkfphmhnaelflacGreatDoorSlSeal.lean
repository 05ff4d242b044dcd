/-
  mark.Seal, by its contract: the sealed sector of a body, or why it is none. Condition: the table of four steps holds what its initialiser lays.
-/
import Derived.Test.YtkfphmhnaelflacGreatDoorSlSum
import Derived.Test.YtkfphmhnaelflacGreatDoorLeOut
import Derived.Deep.RegionWith
namespace Go.Proofs.YtkfphmhnaelflacGreatDoor.Mk
open Go.ChangeShapes Go.WideShapes Go.ChangeAt Go.RowKit Go.Lib
open Go.Proofs.YtkfphmhnaelflacGreatDoor.Le (take_snoc ret_int put_any putF OutS textF text_any string_some string_none)

/-- An error by its number. -/
def errV (e : Int) : Value := if e = 0 then .nilIface else .iface 57 (.int .i64 e)
theorem errV_zero : errV 0 = .nilIface := rfl
theorem errV_pos {e : Int} (h : e ≠ 0) : errV e = .iface 57 (.int .i64 e) := if_neg h

def kindB (k : Int) : Bool := decide (1 ≤ k) && decide (k ≤ 255)
theorem kindB_yes {k : Int} (h1 : 1 ≤ k) (h2 : k ≤ 255) : kindB k = true := by unfold kindB; simp [h1, h2]
theorem kindB_no {k : Int} (h : ¬ (1 ≤ k ∧ k ≤ 255)) : kindB k = false := by unfold kindB; simp; omega

set_option maxRecDepth 100000 in
set_option maxHeartbeats 400000 in
theorem isKind_any (k : Int) (w : World) :
    Calls Tryz.prog 39 #[.int .i64 k] w fun e w' => e = .returned (.bool (kindB k)) ∧ w' = w := by
  have HK : Hid (kindB k = (decide (1 ≤ k) && decide (k ≤ 255))) := rfl
  go_enter Tryz.func39, Tryz.ntmps39
  go_wp2
  · go_ret
    rename_i h
    exact ⟨by rw [HK.out]; simp [h], rfl⟩
  · go_ret
    exact ⟨by rw [HK.out]; simp; omega, rfl⟩

set_option maxRecDepth 100000 in
set_option maxHeartbeats 400000 in
theorem head_any (k : Int) (w : World) (h1 : 1 ≤ k) (h2 : k ≤ 255) :
    Calls Tryz.prog 40 #[.int .i64 k] w fun e w' => e = .returned (.string (headS k)) ∧ Below w.heap.size w w' := by
  have hz : (putF k 1).size = 1 := (Le.putF_in (x := k) (k := 1) (by decide) (by decide) (by omega) (by show k < 256; omega)).2.1
  have HK : Hid (headS k = ⟨#[80, 72]⟩ ++ putF k 1 ++ ⟨#[0]⟩) := rfl
  go_enter Tryz.func40, Tryz.ntmps40
  go_wp2_with fail
  refine (put_any _ _ _).mono ?_
  rintro e w1 ⟨rfl, hb⟩
  go_wp2
  go_ret
  exact ⟨by rw [HK.out]; rfl, hb⟩

set_option maxRecDepth 100000 in
set_option maxHeartbeats 400000 in
theorem sumOf_any (a : ByteArray) (w : World) (hs : a.size ≤ maxLen) (hn : NibAt w) :
    Calls Tryz.prog 41 #[.string a] w fun e w' => e = .returned (.string (sumS a)) ∧ Below w.heap.size w w' := by
  have HN : Hid (NibAt w) := hn
  have HK : Hid (sumS a = putF (sumN a.data.toList) 4) := rfl
  have hl := sumN_lt a.data.toList
  clear hn
  go_enter Tryz.func41, Tryz.ntmps41
  go_wp2_with fail
  refine (sum_any _ _ hs HN.out).mono ?_
  rintro e w ⟨rfl, rfl⟩
  go_wp2_with fail
  refine (put_any _ _ _).mono ?_
  rintro e w1 ⟨rfl, hb⟩
  go_wp2
  go_ret
  exact ⟨by rw [HK.out]; rfl, hb⟩

theorem OutS_new (w : World) : OutS (w.alloc (.cells #[.slice none 0 0, .bool false] 60)) w.heap.size (some []) := by
  refine ⟨.slice none 0 0, ?_, World.ownsRow_nil _ _ _ _⟩
  show (w.heap.push _)[w.heap.size]? = _
  simp

theorem text1 {k : Int} (h1 : 1 ≤ k) (h2 : k ≤ 255) : textF (some []) (headS k) 4 = some (headS k).data.toList := by
  have := headS_size h1 h2
  show (if ((headS k).size : Int) ≤ 4 then some ([] ++ (headS k).data.toList ++ List.replicate (4 - ((headS k).size : Int)).toNat 0) else none) = _
  rw [if_pos (by omega)]
  simp [this]
theorem text2 {k : Int} {body : ByteArray} (hb : body.size ≤ 504) : textF (some (headS k).data.toList) body 504 = some (aheadL k body) := by
  show (if (body.size : Int) ≤ 504 then some ((headS k).data.toList ++ body.data.toList ++ List.replicate (504 - (body.size : Int)).toNat 0) else none) = _
  rw [if_pos (by omega), List.append_assoc, show (504 - (body.size : Int)).toNat = 504 - body.size by omega]; rfl
theorem text2_no {k : Int} {body : ByteArray} (hb : ¬ body.size ≤ 504) : textF (some (headS k).data.toList) body 504 = none := by
  show (if (body.size : Int) ≤ 504 then some ((headS k).data.toList ++ body.data.toList ++ List.replicate (504 - (body.size : Int)).toNat 0) else none) = _
  rw [if_neg (by omega)]

set_option maxRecDepth 100000 in
set_option maxHeartbeats 400000 in
theorem seal_yes (k : Int) (body : ByteArray) (w : World) (h1 : 1 ≤ k) (h2 : k ≤ 255) (hb : body.size ≤ 504) (hn : NibAt w) :
    Calls Tryz.prog 22 #[.int .i64 k, .string body] w fun e w' => e = .returned (.tuple #[.string (sealS k body), .nilIface]) ∧ Below w.heap.size w w' := by
  have HN : Hid (NibAt w) := hn
  have hk := kindB_yes h1 h2
  have HS : Hid (sealS k body = aheadS k body ++ sumS (aheadS k body)) := rfl
  have hz1 := aheadS_size h1 h2 hb
  have hz2 := sumS_size (aheadS k body)
  clear hn
  go_enter Tryz.func22, Tryz.ntmps22
  go_wp2_with fail
  refine (isKind_any _ _).mono ?_
  rintro e w ⟨rfl, rfl⟩
  go_wp2_with fail
  refine (head_any _ _ h1 h2).mono ?_
  rintro e w1 ⟨rfl, hb1⟩
  have ho1 : OutS w1 w.heap.size (some []) := (OutS_new w).kept hb1
  go_wp2_with fail
  refine (text_any _ w.heap.size _ _ _ ho1 (by simp)).mono ?_
  rintro e w2 ⟨rfl, ho2, hb2⟩
  rw [text1 h1 h2] at ho2
  have hl : (headS k).data.toList.length = 4 := by have := headS_size h1 h2; simpa using this
  have HB2 : Hid (Below w.heap.size w w2) := (((Below.refl _ _).alloc (Nat.le_refl _) _).trans (hb1.mono (by simp))).trans hb2
  clear ho1 hb1 hb2
  go_wp2_with fail
  refine (text_any _ w.heap.size _ _ _ ho2 (by intro xs hx; cases hx; rw [hl]; omega)).mono ?_
  rintro e w3 ⟨rfl, ho3, hb3⟩
  rw [text2 hb] at ho3
  have HB3 : Hid (Below w.heap.size w w3) := HB2.out.trans hb3
  clear ho2 hb3 hl
  go_wp2_with fail
  refine (string_some _ w.heap.size _ ho3).mono ?_
  rintro e w3 ⟨rfl, rfl⟩
  have HN3 : Hid (NibAt w3) := HN.out.below HB3.out
  clear ho3
  have HA : Hid ((⟨(aheadL k body).toArray⟩ : ByteArray) = aheadS k body) := rfl
  rw [HA.out]
  go_wp2_with fail
  refine (sumOf_any _ _ (by unfold maxLen; omega) HN3.out).mono ?_
  rintro e w4 ⟨rfl, hb4⟩
  go_wp2
  go_ret2
  exact ⟨by rw [HS.out]; rfl, HB3.out.trans (hb4.mono HB3.out.size)⟩

set_option maxRecDepth 100000 in
set_option maxHeartbeats 400000 in
theorem seal_long (k : Int) (body : ByteArray) (w : World) (h1 : 1 ≤ k) (h2 : k ≤ 255) (hb : ¬ body.size ≤ 504) :
    Calls Tryz.prog 22 #[.int .i64 k, .string body] w fun e w' => e = .returned (.tuple #[.string ByteArray.empty, .iface 57 (.int .i64 10)]) ∧ Below w.heap.size w w' := by
  have hk := kindB_yes h1 h2
  go_enter Tryz.func22, Tryz.ntmps22
  go_wp2_with fail
  refine (isKind_any _ _).mono ?_
  rintro e w ⟨rfl, rfl⟩
  go_wp2_with fail
  refine (head_any _ _ h1 h2).mono ?_
  rintro e w1 ⟨rfl, hb1⟩
  have ho1 : OutS w1 w.heap.size (some []) := (OutS_new w).kept hb1
  go_wp2_with fail
  refine (text_any _ w.heap.size _ _ _ ho1 (by simp)).mono ?_
  rintro e w2 ⟨rfl, ho2, hb2⟩
  rw [text1 h1 h2] at ho2
  have hl : (headS k).data.toList.length = 4 := by have := headS_size h1 h2; simpa using this
  have HB2 : Hid (Below w.heap.size w w2) := (((Below.refl _ _).alloc (Nat.le_refl _) _).trans (hb1.mono (by simp))).trans hb2
  clear ho1 hb1 hb2
  go_wp2_with fail
  refine (text_any _ w.heap.size _ _ _ ho2 (by intro xs hx; cases hx; rw [hl]; omega)).mono ?_
  rintro e w3 ⟨rfl, ho3, hb3⟩
  rw [text2_no hb] at ho3
  have HB3 : Hid (Below w.heap.size w w3) := HB2.out.trans hb3
  clear ho2 hb3 hl
  go_wp2_with fail
  refine (string_none _ w.heap.size ho3).mono ?_
  rintro e w3 ⟨rfl, rfl⟩
  clear ho3
  go_wp2
  go_ret2
  exact ⟨rfl, HB3.out⟩

set_option maxRecDepth 100000 in
set_option maxHeartbeats 400000 in
theorem seal_arg (k : Int) (body : ByteArray) (w : World) (h : ¬ (1 ≤ k ∧ k ≤ 255)) :
    Calls Tryz.prog 22 #[.int .i64 k, .string body] w fun e w' => e = .returned (.tuple #[.string ByteArray.empty, .iface 57 (.int .i64 1)]) ∧ w' = w := by
  have hk := kindB_no h
  clear h
  go_enter Tryz.func22, Tryz.ntmps22
  go_wp2_with fail
  refine (isKind_any _ _).mono ?_
  rintro e w ⟨rfl, rfl⟩
  go_wp2
  go_ret2
  exact ⟨rfl, rfl⟩

/-- What Seal answers: the sector, the error's number. -/
def sealF (k : Int) (body : ByteArray) : ByteArray × Int := if 1 ≤ k ∧ k ≤ 255 then (if body.size ≤ 504 then (sealS k body, 0) else (ByteArray.empty, 10)) else (ByteArray.empty, 1)

theorem sealM_any (k : Int) (body : ByteArray) (w : World) (hn : NibAt w) :
    Calls Tryz.prog 22 #[.int .i64 k, .string body] w fun e w' => e = .returned (.tuple #[.string (sealF k body).1, errV (sealF k body).2]) ∧ Below w.heap.size w w' := by
  unfold sealF
  by_cases hk : 1 ≤ k ∧ k ≤ 255
  · rw [if_pos hk]
    by_cases hb : body.size ≤ 504
    · rw [if_pos hb]; exact seal_yes k body w hk.1 hk.2 hb hn
    · rw [if_neg hb]; exact seal_long k body w hk.1 hk.2 hb
  · rw [if_neg hk]
    exact (seal_arg k body w hk).mono fun e w' ⟨h1, h2⟩ => ⟨h1, h2 ▸ Below.refl _ _⟩

end Go.Proofs.YtkfphmhnaelflacGreatDoor.Mk
