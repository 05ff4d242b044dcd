/-
  The word of an error: its text without what lies below it. No condition.
-/
import Derived.Test.YtocfhejjmefmcaaDoorFaPush
import Derived.Test.YtocfhejjmefmcaaDoorShelf
import Derived.Lib.AppendIntMem
import Derived.Lib.ItoaLen
import Derived.Deep.RegionHeld3
namespace Go.Proofs.YtocfhejjmefmcaaDoor.Fa
open Go.ChangeShapes Go.WideShapes Go.ChangeAt Go.RowKit Go.Proofs.Fa

/-- The table of powers of ten lies in w. -/
def Tab (w : World) : Prop := Lib.TabIs Tryd.prog w "internal/strconv.uint64pow10" .u64 Lib.pow10Tab
/-- A number as a text. -/
def itoaB (n : Int) : ByteArray := ⟨(Lib.itoa n).toArray⟩
/-- The word of a fault. -/
def faultW (op : ByteArray) (pos : Int) : ByteArray := op ++ ⟨#[32]⟩ ++ itoaB pos ++ ⟨#[58, 32]⟩
/-- The word of an error. -/
def wordK : Option (Option Int) → List Layer → ByteArray
  | none, [] => ⟨#[63]⟩
  | some none, [] => ⟨#[63]⟩
  | some (some n), [] => wordF n
  | _, y :: _ => if y.join = true then ⟨#[]⟩ else faultW y.op y.pos

set_option maxRecDepth 100000
set_option maxHeartbeats 2000000
theorem word_none (w : World) : Calls Tryd.prog 45 #[.nilIface] w fun e w' => e = .returned (.string ⟨#[63]⟩) ∧ w' = w := by
  have t0 := asFault_nil
  have t1 := asMany_nil
  have t2 := asErrno_nil
  go_enter Tryd.func45, Tryd.ntmps45
  go_wp2
  go_ret
  exact ⟨rfl, rfl⟩
theorem word_nil (w : World) : Calls Tryd.prog 45 #[.iface 44 (.pointer none)] w fun e w' => e = .returned (.string ⟨#[63]⟩) ∧ w' = w := by
  have t0 := asFault
  go_enter Tryd.func45, Tryd.ntmps45
  go_wp2
  go_ret
  exact ⟨rfl, rfl⟩
theorem word_many (v : Value) (w : World) : Calls Tryd.prog 45 #[.iface 56 v] w fun e w' => e = .returned (.string ⟨#[]⟩) ∧ w' = w := by
  have t0 := asFault_Many
  have t1 := asMany
  go_enter Tryd.func45, Tryd.ntmps45
  go_wp2
  go_ret
  exact ⟨rfl, rfl⟩
theorem word_errno (n : Int) (w : World) (hw : WordsAt w) : Calls Tryd.prog 45 #[.iface 36 (.int .i64 n)] w fun e w' => e = .returned (.string (wordF n)) ∧ w' = w := by
  have t0 := asFault_Errno
  have t1 := asMany_Errno
  have t2 := asErrno
  have HW : Hid (WordsAt w) := hw
  clear hw
  go_enter Tryd.func45, Tryd.ntmps45
  go_wp2_with (go_at_call 27; refine (errno_any _ _ HW.out).mono ?_; rintro e w1 ⟨rfl, rfl⟩)
  go_ret
  exact ⟨rfl, rfl⟩
theorem word_fault (g : Nat) (op : ByteArray) (pos : Int) (v : Value) (w : World) (h : w.heap[g]? = some (.cells #[.string op, .int .i64 pos, v] 46 (0, 0))) (lo : -9223372036854775808 ≤ pos) (hi : pos ≤ 9223372036854775807) (hz : op.size ≤ 1000) (hT : Tab w) :
    Calls Tryd.prog 45 #[.iface 44 (.pointer (some ⟨g, 0, none⟩))] w fun e w' => e = .returned (.string (faultW op pos)) ∧ Below w.heap.size w w' := by
  have t0 := asFault
  have HT : Hid (Tab w) := hT
  have hc0 : w.cell? ⟨g, 0, none⟩ = some (.string op) := cell_of_heap h 0 _ rfl
  have hc1 : w.cell? ⟨g, 1, none⟩ = some (.int .i64 pos) := cell_of_heap h 1 _ rfl
  have hn1 : ¬ 9223372036854775807 < op.size + 1 := by omega
  have hil : (itoaB pos).size ≤ 21 := Lib.itoa_length_le pos lo hi
  have hn2 : ¬ 9223372036854775807 < op.size + 1 + (itoaB pos).size := by omega
  have hn3 : ¬ 9223372036854775807 < op.size + 1 + (itoaB pos).size + 2 := by omega
  have hgl := lt_of_heap h
  clear h hT
  go_enter Tryd.func45, Tryd.ntmps45
  go_wp2_with fail
  refine wp_region_held_drew (S := fun w' => w'.cell? ⟨g, 0, none⟩ = some (.string op) ∧ w'.cell? ⟨g, 1, none⟩ = some (.int .i64 pos)) (by kernel_rfl) (by exact ⟨hc0, hc1⟩) (fun hHeld => ?_)
  change wpAnyH _ _ _ _ _ 13 (Array.replicate 13 false) _ _
  refine wpAnyH_take (i := 0) (oi := _) (v := _) (by simp only [List.getElem?_toArray, List.getElem?_cons_zero]; rfl) (by kernel_rfl) (by kernel_rfl) (by kernel_rfl) (by exact fun _ _ _ h => h) (Or.inl ⟨by rfl, by intro w' hSw; (try dsimp only at hSw); first | (go_simp; done) | (go_simp; with_reducible rfl)⟩) hHeld ?_
  simp only [Act.put, List.setIfInBounds_toArray, List.set_cons_zero, List.set_cons_succ]
  refine wpAnyH_take (i := 1) (oi := _) (v := _) (by simp only [List.getElem?_toArray, List.getElem?_cons_succ, List.getElem?_cons_zero]; rfl) (by kernel_rfl) (by kernel_rfl) (by kernel_rfl) (by exact fun _ _ _ h => h) (Or.inl ⟨by rfl, by intro w' hSw; (try dsimp only at hSw); first | (go_simp; done) | (go_simp; with_reducible rfl)⟩) hHeld ?_
  simp only [Act.put, List.setIfInBounds_toArray, List.set_cons_zero, List.set_cons_succ]
  refine wpAnyH_take (i := 2) (oi := _) (v := _) (by simp only [List.getElem?_toArray, List.getElem?_cons_succ, List.getElem?_cons_zero]; rfl) (by kernel_rfl) (by kernel_rfl) (by kernel_rfl) (by exact fun _ _ _ h => h) (Or.inl ⟨by rfl, by intro w' hSw; (try dsimp only at hSw); first | (go_simp; done) | (go_simp; with_reducible rfl)⟩) hHeld ?_
  simp only [Act.put, List.setIfInBounds_toArray, List.set_cons_zero, List.set_cons_succ]
  refine wpAnyH_take (i := 3) (oi := _) (v := _) (by simp only [List.getElem?_toArray, List.getElem?_cons_succ, List.getElem?_cons_zero]; rfl) (by kernel_rfl) (by kernel_rfl) (by kernel_rfl) (by exact fun _ _ _ h => h) (Or.inl ⟨by rfl, by intro w' hSw; (try dsimp only at hSw); first | (go_simp; done) | (go_simp; with_reducible rfl)⟩) hHeld ?_
  simp only [Act.put, List.setIfInBounds_toArray, List.set_cons_zero, List.set_cons_succ]
  refine wpAnyH_take (i := 4) (oi := _) (v := _) (by simp only [List.getElem?_toArray, List.getElem?_cons_succ, List.getElem?_cons_zero]; rfl) (by kernel_rfl) (by kernel_rfl) (by kernel_rfl) (by exact fun _ _ _ h => h) (Or.inl ⟨by rfl, by intro w' hSw; (try dsimp only at hSw); first | (go_simp; done) | (go_simp; with_reducible rfl)⟩) hHeld ?_
  simp only [Act.put, List.setIfInBounds_toArray, List.set_cons_zero, List.set_cons_succ]
  refine wpAnyH_take (i := 5) (oi := _) (v := _) (by simp only [List.getElem?_toArray, List.getElem?_cons_succ, List.getElem?_cons_zero]; rfl) (by kernel_rfl) (by kernel_rfl) (by kernel_rfl) (by exact fun _ _ _ h => h) (Or.inl ⟨by rfl, by intro w' hSw; (try dsimp only at hSw); first | (go_simp; done) | (go_simp; with_reducible rfl)⟩) hHeld ?_
  simp only [Act.put, List.setIfInBounds_toArray, List.set_cons_zero, List.set_cons_succ]
  refine wpAnyH_take (i := 6) (oi := _) (v := _) (by simp only [List.getElem?_toArray, List.getElem?_cons_succ, List.getElem?_cons_zero]; rfl) (by kernel_rfl) (by kernel_rfl) (by kernel_rfl) (by exact fun _ _ _ h => h) (Or.inl ⟨by rfl, by intro w' hSw; (try dsimp only at hSw); first | (go_simp; done) | (go_simp; with_reducible rfl)⟩) hHeld ?_
  simp only [Act.put, List.setIfInBounds_toArray, List.set_cons_zero, List.set_cons_succ]
  refine wpAnyH_take (i := 7) (oi := _) (v := _) (by simp only [List.getElem?_toArray, List.getElem?_cons_succ, List.getElem?_cons_zero]; rfl) (by kernel_rfl) (by kernel_rfl) (by kernel_rfl) (by exact fun _ _ _ h => h) (Or.inl ⟨by rfl, by intro w' hSw; (try dsimp only at hSw); first | (go_simp; done) | (go_simp; with_reducible rfl)⟩) hHeld ?_
  simp only [Act.put, List.setIfInBounds_toArray, List.set_cons_zero, List.set_cons_succ]
  refine wpAnyH_take (i := 8) (oi := _) (v := _) (by simp only [List.getElem?_toArray, List.getElem?_cons_succ, List.getElem?_cons_zero]; rfl) (by kernel_rfl) (by kernel_rfl) (by kernel_rfl) (by exact fun _ _ _ h => h) (Or.inl ⟨by rfl, by intro w' hSw; (try dsimp only at hSw); first | (go_simp; done) | (go_simp; with_reducible rfl)⟩) hHeld ?_
  simp only [Act.put, List.setIfInBounds_toArray, List.set_cons_zero, List.set_cons_succ]
  refine wpAnyH_ready (rs := [9]) (by kernel_rfl) (by simp) ?_
  refine AllReadyH.cons rfl (fun K hK => ?_) AllReadyH.nil
  go_simp
  go_wp2_with fail
  refine (Tryd.strconv_Itoa _ lo hi _ (by exact HT.out)).mono ?_
  rintro e w1 ⟨rfl, n, os, hw1⟩
  have hb1 : Below w.heap.size w w1 := by rw [hw1]; exact (Below.refl _ w).drew.trans (Lib.below_grow w.heap.size w.drew (Nat.le_refl _) n os)
  have HB : Hid (Below w.heap.size w w1) := hb1
  have hd0 := (hb1.cell (p := ⟨g, 0, none⟩) hgl).trans hc0
  have hd1 := (hb1.cell (p := ⟨g, 1, none⟩) hgl).trans hc1
  clear hb1 hw1
  rw [show (⟨(Lib.itoa pos).toArray⟩ : ByteArray) = itoaB pos from rfl]
  go_wp2_with fail
  refine hK.out _ _ ⟨hd0, hd1⟩ (fun hHeld => ?_)
  clear hK K
  refine wpAnyH_take (i := 10) (oi := _) (v := _) (by simp only [List.getElem?_toArray, List.getElem?_cons_succ, List.getElem?_cons_zero]; rfl) (by kernel_rfl) (by kernel_rfl) (by kernel_rfl) (by exact fun _ _ _ h => h) (Or.inl ⟨by rfl, by intro w' hSw; (try dsimp only at hSw); first | (go_simp; done) | (go_simp; with_reducible rfl)⟩) hHeld ?_
  simp only [Act.put, List.setIfInBounds_toArray, List.set_cons_zero, List.set_cons_succ]
  refine wpAnyH_take (i := 11) (oi := _) (v := _) (by simp only [List.getElem?_toArray, List.getElem?_cons_succ, List.getElem?_cons_zero]; rfl) (by kernel_rfl) (by kernel_rfl) (by kernel_rfl) (by exact fun _ _ _ h => h) (Or.inl ⟨by rfl, by intro w' hSw; (try dsimp only at hSw); first | (go_simp; done) | (go_simp; with_reducible rfl)⟩) hHeld ?_
  simp only [Act.put, List.setIfInBounds_toArray, List.set_cons_zero, List.set_cons_succ]
  refine wpAnyH_take (i := 12) (oi := _) (v := _) (by simp only [List.getElem?_toArray, List.getElem?_cons_succ, List.getElem?_cons_zero]; rfl) (by kernel_rfl) (by kernel_rfl) (by kernel_rfl) (by exact fun _ _ _ h => h) (Or.inl ⟨by rfl, by intro w' hSw; (try dsimp only at hSw); first | (go_simp; done) | (go_simp; with_reducible rfl)⟩) hHeld ?_
  simp only [Act.put, List.setIfInBounds_toArray, List.set_cons_zero, List.set_cons_succ]
  refine wpAnyH_done (by kernel_rfl) ?_ _
  clear hHeld
  go_wp2
  go_ret
  exact ⟨rfl, HB.out⟩

end Go.Proofs.YtocfhejjmefmcaaDoor.Fa
