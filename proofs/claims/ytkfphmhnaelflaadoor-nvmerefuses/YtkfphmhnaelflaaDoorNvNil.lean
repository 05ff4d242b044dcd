/-
  No device, and devices that may not be: what each call answers. No condition.
-/
import Derived.Test.YtkfphmhnaelflaaDoorNvSp
namespace Go.Proofs.YtkfphmhnaelflaaDoor.Nv
open Go.ChangeShapes Go.WideShapes Go.ChangeAt Go.RowKit Go.Proofs.Fa

set_option maxRecDepth 100000
set_option maxHeartbeats 4000000

theorem size_nil (w : World) : Calls Tryd.prog 21 #[.pointer none] w fun e w' => e = .returned (.tuple #[.int .i64 0, .int .i64 0]) ∧ w' = w := by
  go_enter Tryd.func21, Tryd.ntmps21
  go_wp2
  go_ret2
  exact ⟨rfl, rfl⟩

theorem size_any {w : World} {S : Nat → Prop} {b : Nat} {d : Dev} {vl vc vw vk : Value} (h : DevIn w S b d vl vc vw vk) : Calls Tryd.prog 21 #[.pointer (some ⟨b, 0, none⟩)] w fun e w' => e = .returned (.tuple #[.int .i64 d.lasting.length, .int .i64 d.depth]) ∧ Below w.heap.size w w' := by
  obtain ⟨a, cap, rfl, hm⟩ := row_slice h.las
  have c0 : w.cell? ⟨b, 0, none⟩ = some (.int .i64 d.depth) := cell_of_heap h.main 0 _ rfl
  have c1 : w.cell? ⟨b, 1, none⟩ = some (.slice a d.lasting.length cap) := cell_of_heap h.main 1 _ rfl
  clear h
  go_enter Tryd.func21, Tryd.ntmps21
  go_wp2
  go_region
  go_wp2
  go_ret2
  exact ⟨rfl, (Below.refl _ _).drew⟩

theorem look_nil (s : Int) (w : World) : Calls Tryd.prog 22 #[.pointer none, .int .i64 s] w fun e w' => e = .returned (.tuple #[.string ⟨#[]⟩, errV 1]) ∧ w' = w := by
  go_enter Tryd.func22, Tryd.ntmps22
  go_wp2_with fail
  refine (powered_nil w).mono ?_
  rintro e w1 ⟨rfl, rfl⟩
  rw [show errV 1 = .iface 67 (.int .i64 1) from rfl]
  go_wp2
  go_ret2
  exact ⟨rfl, rfl⟩

theorem complete_nil (i : Int) (w : World) : Calls Tryd.prog 13 #[.pointer none, .int .i64 i] w fun e w' => e = .returned (.tuple #[noCmd.agg, errV 1]) ∧ Below w.heap.size w w' := by
  obtain ⟨w0, hw0⟩ : ∃ w0, w0 = w.alloc (Obj.cells #[.int .i64 0, .int .i64 0, .string ⟨#[]⟩, .int .i64 0] 38) := ⟨_, rfl⟩
  have HB0 : Hid (Below w.heap.size w w0) := by rw [hw0]; exact (Below.refl _ _).alloc (Nat.le_refl _) _
  have HY0 : Hid (w0.heap[w.heap.size]? = some (.cells #[.int .i64 0, .int .i64 0, .string ⟨#[]⟩, .int .i64 0] 38 (0, 0))) := by rw [hw0]; exact heap_alloc_new _ _
  go_enter Tryd.func13, Tryd.ntmps13
  go_wp2_with fail
  rw [← hw0]
  clear hw0
  refine (powered_nil w0).mono ?_
  rintro e w1 ⟨rfl, rfl⟩
  obtain ⟨c0, c1, c2, c3, z0, z1, z2, z3⟩ := agg4 HY0.out
  rw [show errV 1 = .iface 67 (.int .i64 1) from rfl]
  go_wp2
  refine bodyPost_ret (res_complete _ w.heap.size _ noCmd _ rfl rfl (set4_heap HY0.out _ _ _ _)) rfl ?_
  exact ⟨rfl, set4_below HB0.out _ (Nat.le_refl _) _ _ _ _⟩

theorem submit_nil (c : Cmd) (w : World) : Calls Tryd.prog 11 #[.pointer none, c.agg] w fun e w' => e = .returned (errV 1) ∧ Below w.heap.size w w' := by
  obtain ⟨kd, s, dt, tg⟩ := c
  rw [show Cmd.agg ⟨kd, s, dt, tg⟩ = .agg #[.int .i64 kd, .int .i64 s, .string dt, .int .i64 tg] from rfl]
  go_enter Tryd.func11, Tryd.ntmps11
  go_wp2_with fail
  refine (powered_nil _).mono ?_
  rintro e w1 ⟨rfl, rfl⟩
  rw [show errV 1 = .iface 67 (.int .i64 1) from rfl]
  go_wp2
  go_ret
  exact ⟨rfl, (Below.refl _ _).alloc (Nat.le_refl _) _⟩

theorem fail_nil (n : Int) (v : Value) (w : World) : Calls Tryd.prog 15 #[.pointer none, .int .i64 n, v] w fun e w' => (∃ u, e = .returned u) ∧ w' = w := by
  go_enter Tryd.func15, Tryd.ntmps15
  go_wp2
  refine bodyPost_ret (results_none rfl _ _ _) rfl ?_
  exact ⟨⟨_, rfl⟩, rfl⟩

theorem crash_nil (v : Value) (w : World) : Calls Tryd.prog 16 #[.pointer none, v] w fun e w' => (∃ u, e = .returned u) ∧ w' = w := by
  go_enter Tryd.func16, Tryd.ntmps16
  go_wp2
  refine bodyPost_ret (results_none rfl _ _ _) rfl ?_
  exact ⟨⟨_, rfl⟩, rfl⟩

theorem boot_nil (w : World) : Calls Tryd.prog 18 #[.pointer none] w fun e w' => (∃ u, e = .returned u) ∧ w' = w := by
  go_enter Tryd.func18, Tryd.ntmps18
  go_wp2
  refine bodyPost_ret (results_none rfl _ _ _) rfl ?_
  exact ⟨⟨_, rfl⟩, rfl⟩

theorem down_nil (w : World) : Calls Tryd.prog 24 #[.pointer none] w fun e w' => e = .returned (.bool true) ∧ w' = w := by
  go_enter Tryd.func24, Tryd.ntmps24
  go_wp2
  go_ret
  exact ⟨rfl, rfl⟩

theorem pending_nil (w : World) : Calls Tryd.prog 25 #[.pointer none] w fun e w' => e = .returned (.slice none 0 0) ∧ w' = w := by
  go_enter Tryd.func25, Tryd.ntmps25
  go_wp2
  go_ret
  exact ⟨rfl, rfl⟩

theorem copy_nil (w : World) : Calls Tryd.prog 19 #[.pointer none] w fun e w' => e = .returned (.pointer none) ∧ w' = w := by
  go_enter Tryd.func19, Tryd.ntmps19
  go_wp2
  go_ret
  exact ⟨rfl, rfl⟩

theorem counts_nil (w : World) : Calls Tryd.prog 23 #[.pointer none] w fun e w' => e = .returned (.tuple #[.int .i64 0, .int .i64 0, .int .i64 0]) ∧ w' = w := by
  go_enter Tryd.func23, Tryd.ntmps23
  go_wp2
  refine bodyPost_ret (v := .tuple #[.int .i64 0, .int .i64 0, .int .i64 0]) (by simp [results, Tryd.f23, go_sem]) rfl ?_
  exact ⟨rfl, rfl⟩

theorem new_err (n k : Int) (h : (n < 1 ∨ (1 ≤ n ∧ 2048 < n)) ∨ (1 ≤ n ∧ n ≤ 2048 ∧ k < 1) ∨ (1 ≤ n ∧ n ≤ 2048 ∧ 1 ≤ k ∧ 64 < k)) (w : World) :
    Calls Tryd.prog 6 #[.int .i64 n, .int .i64 k] w fun e w' => e = .returned (.tuple #[.pointer none, errV 1]) ∧ w' = w := by
  rcases h with (h1 | ⟨h1, h2⟩) | ⟨h1, h2, h3⟩ | ⟨h1, h2, h3, h4⟩
  all_goals
    go_enter Tryd.func6, Tryd.ntmps6
    go_wp2
    go_ret2
    exact ⟨rfl, rfl⟩

end Go.Proofs.YtkfphmhnaelflaaDoor.Nv
