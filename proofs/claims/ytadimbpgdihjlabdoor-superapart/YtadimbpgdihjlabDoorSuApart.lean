/-
  SuperApart answers true for every input: two layouts that are right have the same sector just where they are the same. Condition: the table of four steps holds what its initialiser lays.
-/
import Derived.Test.YtadimbpgdihjlabDoorSuPut
namespace Go.Proofs.YtadimbpgdihjlabDoor.Su
open Go.ChangeShapes Go.WideShapes Go.ChangeAt Go.RowKit
open Go.Proofs.YtadimbpgdihjlabDoor.Le (streq_yes streq_no)
open Go.Proofs.YtadimbpgdihjlabDoor.Mk (NibAt sealS padS seal_inj)

set_option maxRecDepth 100000
set_option maxHeartbeats 1000000

theorem seal_same {s j t k : Int} (hp : RightP s j) (hq : RightP t k) (h : sealS 1 (bodyS s j) = sealS 1 (bodyS t k)) : s = t ∧ j = k := by
  have h1 := ((seal_inj (by decide) (by decide) (by decide) (by decide) (by rw [bodyS_size hp]; decide) (by rw [bodyS_size hq]; decide)).1 h).2
  have h2 := bodyG_put hp
  rw [h1, bodyG_put hq] at h2
  simp only [Prod.mk.injEq] at h2
  exact ⟨h2.1.symm, h2.2.1.symm⟩

theorem superApart_calls (x y z u : Int) (w : World) (hn : NibAt w) :
    Calls Tryd.prog 4 #[.agg #[.int .i64 x, .int .i64 y], .agg #[.int .i64 z, .int .i64 u]] w fun r w' => r = .returned (.bool true) ∧ Below w.heap.size w w' := by
  have HN : Hid (NibAt w) := hn
  clear hn
  obtain ⟨m, em, hm0, hm1⟩ := mask1023 x
  obtain ⟨k, ek, hk0, hk1⟩ := mask255 y
  obtain ⟨m2, em2, hm20, hm21⟩ := mask1023 z
  obtain ⟨k2, ek2, hk20, hk21⟩ := mask255 u
  have hp : RightP (600 + m) (8 + k) := by unfold RightP; omega
  have hq : RightP (600 + m2) (8 + k2) := by unfold RightP; omega
  have HP : Hid (∀ w, NibAt w → _) := fun w h => put_yes (600 + m) (8 + k) w hp h
  have HQ : Hid (∀ w, NibAt w → _) := fun w h => put_yes (600 + m2) (8 + k2) w hq h
  obtain ⟨w0, hw0⟩ : ∃ w0, w0 = (w.alloc (.cells #[.int .i64 x, .int .i64 y] 36)).alloc (.cells #[.int .i64 z, .int .i64 u] 36) := ⟨_, rfl⟩
  have HB0 : Hid (Below w.heap.size w w0) := by rw [hw0]; exact ((Below.refl _ _).alloc (Nat.le_refl _) _).alloc (by simp) _
  go_enter Tryd.func4, Tryd.ntmps4
  go_wp2_with fail
  rw [← hw0]
  have c0 : w0.cell? ⟨w.heap.size, 0, none⟩ = some (.int .i64 x) := by rw [hw0]; simp
  have c1 : w0.cell? ⟨w.heap.size, 1, none⟩ = some (.int .i64 y) := by rw [hw0]; simp
  have c2 : w0.cell? ⟨w.heap.size + 1, 0, none⟩ = some (.int .i64 z) := by rw [hw0]; simp
  have c3 : w0.cell? ⟨w.heap.size + 1, 1, none⟩ = some (.int .i64 u) := by rw [hw0]; simp
  refine (speaks_any _).mono ?_
  rintro r w1 ⟨rfl, hb1⟩
  have HB1 : Hid (Below w.heap.size w w1) := HB0.out.trans (hb1.mono HB0.out.size)
  have d0 := (hb1.cell (p := ⟨w.heap.size, 0, none⟩) (lt_of_cell c0)).trans c0
  have d1 := (hb1.cell (p := ⟨w.heap.size, 1, none⟩) (lt_of_cell c1)).trans c1
  have d2 := (hb1.cell (p := ⟨w.heap.size + 1, 0, none⟩) (lt_of_cell c2)).trans c2
  have d3 := (hb1.cell (p := ⟨w.heap.size + 1, 1, none⟩) (lt_of_cell c3)).trans c3
  clear hb1 hw0 c0 c1 c2 c3 HB0
  have e2 : ∀ o, (w1.alloc o).cell? ⟨w.heap.size + 1, 0, none⟩ = some (.int .i64 z) := fun o => (World.cell?_of_block (Below.heap_alloc _ _ _ (lt_of_cell d2))).trans d2
  have e3 : ∀ o, (w1.alloc o).cell? ⟨w.heap.size + 1, 1, none⟩ = some (.int .i64 u) := fun o => (World.cell?_of_block (Below.heap_alloc _ _ _ (lt_of_cell d3))).trans d3
  obtain ⟨w2, hw2⟩ : ∃ w2, w2 = (w1.alloc (.cells #[.int .i64 (600 + m), .int .i64 (8 + k)] 26)).alloc (.cells #[.int .i64 (600 + m2), .int .i64 (8 + k2)] 26) := ⟨_, rfl⟩
  have HB2 : Hid (Below w.heap.size w w2) := by rw [hw2]; exact (HB1.out.alloc HB1.out.size _).alloc (by have := HB1.out.size; simp; omega) _
  have HL2 : Hid (LayAt w1.heap.size (600 + m) (8 + k) w2) := by rw [hw2]; exact (lay_new w1 _ _ _).below ((Below.refl _ _).alloc (Nat.le_refl _) _)
  have HM2 : Hid (LayAt (w1.heap.size + 1) (600 + m2) (8 + k2) w2) := by
    rw [hw2]
    have := lay_new (w1.alloc (.cells #[.int .i64 (600 + m), .int .i64 (8 + k)] 26)) (600 + m2) (8 + k2) 26
    rw [World.size_alloc] at this
    exact this
  go_wp2_with fail
  rw [← hw2]
  refine (HP.out _ (HN.out.below HB2.out)).mono ?_
  rintro r w3 ⟨rfl, hb3⟩
  have HB3 : Hid (Below w.heap.size w w3) := HB2.out.trans (hb3.mono HB2.out.size)
  have HL3 : Hid (LayAt w1.heap.size (600 + m) (8 + k) w3) := HL2.out.below hb3
  have HM3 : Hid (LayAt (w1.heap.size + 1) (600 + m2) (8 + k2) w3) := HM2.out.below hb3
  clear hb3 hw2 HB2 HL2 HM2 HP d0 d1 d2 d3 e2 e3 HB1
  obtain ⟨c0, c1⟩ := HM3.out.cells
  go_wp2_with fail
  refine (HQ.out _ (HN.out.below HB3.out)).mono ?_
  rintro r w4 ⟨rfl, hb4⟩
  have HB4 : Hid (Below w.heap.size w w4) := HB3.out.trans (hb4.mono HB3.out.size)
  have HL4 : Hid (LayAt w1.heap.size (600 + m) (8 + k) w4) := HL3.out.below hb4
  have HM4 : Hid (LayAt (w1.heap.size + 1) (600 + m2) (8 + k2) w4) := HM3.out.below hb4
  clear hb4 HB3 HL3 HM3 HQ c0 c1
  obtain ⟨c0, c1⟩ := HM4.out.cells
  obtain ⟨c2, c3⟩ := HL4.out.cells
  by_cases heq : m = m2 ∧ k = k2
  · obtain ⟨rfl, rfl⟩ := heq
    clear hp hq
    generalize sealS 1 (bodyS (600 + m) (8 + k)) = sec at *
    have hq0 : (sec.toList == sec.toList) = true := streq_yes rfl
    go_wp2
    go_ret
    exact ⟨rfl, HB4.out⟩
  · have hs := streq_no (a := sealS 1 (bodyS (600 + m) (8 + k))) (b := sealS 1 (bodyS (600 + m2) (8 + k2))) (fun h => heq (by have := seal_same hp hq h; omega))
    clear hp hq
    generalize sealS 1 (bodyS (600 + m) (8 + k)) = sec at *
    generalize sealS 1 (bodyS (600 + m2) (8 + k2)) = sed at *
    by_cases h1 : m = m2
    · subst h1
      have h2 : (8 + k == 8 + k2) = false := by rw [beq_eq_false_iff_ne]; intro h; exact heq ⟨rfl, by omega⟩
      clear heq
      go_wp2
      go_ret
      exact ⟨rfl, HB4.out⟩
    · have h2 : (600 + m == 600 + m2) = false := by rw [beq_eq_false_iff_ne]; intro h; exact h1 (by omega)
      clear heq h1
      go_wp2
      go_ret
      exact ⟨rfl, HB4.out⟩

end Go.Proofs.YtadimbpgdihjlabDoor.Su
