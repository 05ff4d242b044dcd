/-
  Layer 20's law: what it says first. No condition.
-/
import Derived.Test.YtncjlcgndhodmabDoorRnG
import Derived.Test.YtncjlcgndhodmabDoorRnF
namespace Go.Proofs.YtncjlcgndhodmabDoor.Rn
open Go.ChangeShapes Go.WideShapes Go.ChangeAt Go.RowKit
open Go.Proofs.YtncjlcgndhodmabDoor.Cd
open Go.Proofs.YtncjlcgndhodmabDoor.Nv (lt_of_heap lt_of_cell cell_of_heap free_of_heap)

set_option maxRecDepth 100000
set_option maxHeartbeats 2000000

def spL : List In4 := [⟨0, 0, 0, 2⟩, ⟨20, 0, 0, 0⟩]
theorem sp_few : Few spL := by
  intro x hx
  have h : x = ⟨0, 0, 0, 2⟩ ∨ x = ⟨20, 0, 0, 0⟩ := by simpa [spL] using hx
  rcases h with rfl | rfl
  · exact ⟨by decide, .inl (by decide)⟩
  · exact ⟨by decide, .inr (.inr rfl)⟩
theorem sp_run (page key : ByteArray) : resV (runR spL 9 (mach0 page key) 0) = .tuple #[.agg #[.int .i64 2, .string ⟨#[]⟩, .int .i64 0, .int .i64 2], .nilIface] := by
  have e1 : stepR spL (mach0 page key) = (true, Mach.put { mach0 page key with at' := 1 } 0 2) := rfl
  have e2 : stepR spL (Mach.put { mach0 page key with at' := 1 } 0 2) = (true, { Mach.put { mach0 page key with at' := 1 } 0 2 with at' := 2, ended := true, code := 2 }) := rfl
  rw [runR_step rfl (by show (0 : Int) ≠ (2 : Nat); decide), e1, if_pos rfl, runR_step rfl (by show (1 : Int) ≠ (2 : Nat); decide), e2, if_pos rfl, runR_ended rfl]
  rfl

theorem sp_laid (w : World) (o : Obj) : InsAt ((w.alloc o).alloc (Obj.cells #[.int .i64 0, .int .i64 0, .int .i64 0, .int .i64 2, .int .i64 20, .int .i64 0, .int .i64 0, .int .i64 0] 44)) (.slice (some ⟨w.heap.size + 1, 0, none⟩) 2 2) spL ∧ Below w.heap.size w ((w.alloc o).alloc (Obj.cells #[.int .i64 0, .int .i64 0, .int .i64 0, .int .i64 2, .int .i64 20, .int .i64 0, .int .i64 0, .int .i64 0] 44)) := by
  have hb : Below w.heap.size w (w.alloc o) := (Below.refl _ _).alloc (Nat.le_refl _) _
  have hg := heap_alloc_new (w.alloc o) (Obj.cells #[.int .i64 0, .int .i64 0, .int .i64 0, .int .i64 2, .int .i64 20, .int .i64 0, .int .i64 0, .int .i64 0] 44)
  rw [World.size_alloc] at hg
  refine ⟨.inr ⟨w.heap.size + 1, 0, 2, rfl, by decide, by decide, lt_of_heap hg, fun i hi => ?_⟩, hb.alloc hb.size _⟩
  have h2 : i = 0 ∨ i = 1 := by have : i < 2 := hi; omega
  rcases h2 with rfl | rfl
  · exact ⟨cell_of_heap hg 0 _ rfl, cell_of_heap hg 1 _ rfl, cell_of_heap hg 2 _ rfl, cell_of_heap hg 3 _ rfl⟩
  · exact ⟨cell_of_heap hg 4 _ rfl, cell_of_heap hg 5 _ rfl, cell_of_heap hg 6 _ rfl, cell_of_heap hg 7 _ rfl⟩

theorem speaks_any (w : World) : Calls Tryd.prog 5 #[] w fun r w' => r = .returned (.bool true) ∧ Below w.heap.size w w' := by
  have HF : Hid (∀ w, _) := fun w => full_any ⟨#[]⟩ w (by decide)
  have hpz := fullF_size ⟨#[]⟩
  generalize fullF ⟨#[]⟩ = page at *
  have HP : Hid (∀ (sb : Nat) (pv : Value) (w : World), InsAt w pv spL → _) := fun sb pv w h => program_few pv spL page ⟨#[107]⟩ sb 9 w h (by decide) sp_few hpz (by decide) (by decide) (by decide)
  rw [sp_run] at HP
  clear hpz
  go_enter Tryd.func5, Tryd.ntmps5
  go_wp2_with fail
  refine (HF.out _).mono ?_
  rintro r w3 ⟨rfl, hb3⟩
  have hI := (sp_laid w _).1.below hb3
  have hB := (sp_laid w _).2.trans (hb3.mono (sp_laid w _).2.size)
  clear hb3 HF
  have HI : Hid (InsAt w3 _ spL) := hI
  have HB : Hid (Below w.heap.size w w3) := hB
  clear hI hB
  go_wp2_with fail
  refine (HP.out _ _ w3 HI.out).mono ?_
  rintro r w4 ⟨rfl, hb4⟩
  have HB4 : Hid (Below w.heap.size w w4) := HB.out.trans (hb4.mono HB.out.size)
  clear hb4 HP HI HB
  go_wp2
  go_ret
  exact ⟨rfl, HB4.out.alloc HB4.out.size _⟩

end Go.Proofs.YtncjlcgndhodmabDoor.Rn
