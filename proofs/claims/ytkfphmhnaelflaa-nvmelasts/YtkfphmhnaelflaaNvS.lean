/-
  The device's small calls. No condition.
-/
import Derived.Test.YtkfphmhnaelflaaNvD
namespace Go.Proofs.Ytkfphmhnaelflaa.Nv
open Go.ChangeShapes Go.WideShapes Go.ChangeAt Go.RowKit Go.Proofs.Fa

/-- An error by its number; 0: none. -/
def errV (n : Int) : Value := if n = 0 then .nilIface else .iface 52 (.int .i64 n)
theorem errV_0 : errV 0 = .nilIface := rfl

def isW (c : Cmd) : Bool := c.kind == 2 || c.kind == 3
def bareF (c : Cmd) : Cmd :=
  { c with sector := if c.kind = 4 then 0 else c.sector, data := if isW c = true then c.data else ⟨#[]⟩ }

set_option maxRecDepth 100000
set_option maxHeartbeats 2000000

variable {w : World} {S : Nat → Prop} {b : Nat} {d : Dev} {vl vc vw vk : Value}

theorem powered_any (h : DevIn w S b d vl vc vw vk) : Calls Try.prog 19 #[.pointer (some ⟨b, 0, none⟩)] w fun e w' => e = .returned (errV (if d.down = true then 3 else 0)) ∧ w' = w := by
  have c4 : w.cell? ⟨b, 4, none⟩ = some (.bool d.down) := cell_of_heap h.main 4 _ rfl
  clear h
  cases hd : d.down
  all_goals
    rw [hd] at c4
    go_enter Try.func19, Try.ntmps19
    go_wp2
    go_ret
    exact ⟨rfl, rfl⟩

theorem powered_nil (w : World) : Calls Try.prog 19 #[.pointer none] w fun e w' => e = .returned (errV 1) ∧ w' = w := by
  go_enter Try.func19, Try.ntmps19
  go_wp2
  go_ret
  exact ⟨rfl, rfl⟩

theorem has_any (s : Int) (h : DevIn w S b d vl vc vw vk) : Calls Try.prog 21 #[.pointer (some ⟨b, 0, none⟩), .int .i64 s] w fun e w' => e = .returned (.bool (decide (0 ≤ s ∧ s < d.lasting.length))) ∧ w' = w := by
  obtain ⟨a, cap, rfl, hm⟩ := row_slice h.las
  have c1 : w.cell? ⟨b, 1, none⟩ = some (.slice a d.lasting.length cap) := cell_of_heap h.main 1 _ rfl
  clear h
  by_cases h0 : 0 ≤ s
  · rw [show decide (0 ≤ s ∧ s < d.lasting.length) = decide (s < (d.lasting.length : Int)) by simp [h0]]
    generalize d.lasting.length = n at *
    go_enter Try.func21, Try.ntmps21
    go_wp2
    go_ret
    exact ⟨rfl, rfl⟩
  · rw [show decide (0 ≤ s ∧ s < d.lasting.length) = false by simp; omega]
    have h0' : s < 0 := by omega
    clear h0
    generalize d.lasting.length = n at *
    go_enter Try.func21, Try.ntmps21
    go_wp2
    go_ret
    exact ⟨rfl, rfl⟩

theorem isWrite_any (c : Cmd) (w : World) : Calls Try.prog 22 #[c.agg] w fun e w' => e = .returned (.bool (isW c)) ∧ Below w.heap.size w w' := by
  obtain ⟨kd, s, dt, tg⟩ := c
  simp only [Cmd.agg]
  by_cases h2 : kd = 2
  · subst h2
    go_enter Try.func22, Try.ntmps22
    go_wp2
    go_ret
    exact ⟨rfl, (Below.refl _ _).alloc (Nat.le_refl _) _⟩
  · go_enter Try.func22, Try.ntmps22
    go_wp2
    go_ret
    exact ⟨rfl, (Below.refl _ _).alloc (Nat.le_refl _) _⟩

/-- Four cells of a block turned. -/
theorem set4_heap {w : World} {z : Nat} {a0 a1 a2 a3 : Value} {t : TypeId} (h : w.heap[z]? = some (.cells #[a0, a1, a2, a3] t (0, 0))) (v0 v1 v2 v3 : Value) : ((((w.setCell ⟨z, 0, none⟩ v0).setCell ⟨z, 1, none⟩ v1).setCell ⟨z, 2, none⟩ v2).setCell ⟨z, 3, none⟩ v3).heap[z]? = some (.cells #[v0, v1, v2, v3] t (0, 0)) := by
  have h0 := heap_setCell_same w z 0 _ t v0 h
  have h1 := heap_setCell_same _ z 1 _ t v1 h0
  have h2 := heap_setCell_same _ z 2 _ t v2 h1
  exact heap_setCell_same _ z 3 _ t v3 h2
theorem set4_below {B : Nat} {w0 w : World} (h : Below B w0 w) (z : Nat) (hb : B ≤ z) (v0 v1 v2 v3 : Value) : Below B w0 ((((w.setCell ⟨z, 0, none⟩ v0).setCell ⟨z, 1, none⟩ v1).setCell ⟨z, 2, none⟩ v2).setCell ⟨z, 3, none⟩ v3) :=
  (((h.setCell (p := ⟨z, 0, none⟩) hb _).setCell (p := ⟨z, 1, none⟩) hb _).setCell (p := ⟨z, 2, none⟩) hb _).setCell (p := ⟨z, 3, none⟩) hb _
/-- What a result of a command's type reads. -/
theorem agg4 {w : World} {z : Nat} {a0 a1 a2 a3 : Value} (h : w.heap[z]? = some (.cells #[a0, a1, a2, a3] 37 (0, 0))) : w.cell? ⟨z, 0, none⟩ = some a0 ∧ w.cell? ⟨z, 1, none⟩ = some a1 ∧ w.cell? ⟨z, 2, none⟩ = some a2 ∧ w.cell? ⟨z, 3, none⟩ = some a3 ∧ w.frozen? ⟨z, 0, none⟩ = false ∧ w.frozen? ⟨z, 1, none⟩ = false ∧ w.frozen? ⟨z, 2, none⟩ = false ∧ w.frozen? ⟨z, 3, none⟩ = false :=
  ⟨cell_of_heap h 0 _ rfl, cell_of_heap h 1 _ rfl, cell_of_heap h 2 _ rfl, cell_of_heap h 3 _ rfl, free_of_heap h 0, free_of_heap h 1, free_of_heap h 2, free_of_heap h 3⟩

theorem res_bare (tm : Array Value) (rb : Nat) (W : World) (c : Cmd) (h2 : tm[2]? = some (.pointer (some ⟨rb, 0, none⟩))) (h : W.heap[rb]? = some (.cells #[.int .i64 c.kind, .int .i64 c.sector, .string c.data, .int .i64 c.tag] 37 (0, 0))) :
    (results Try.f20 tm).run Try.prog W = .ok c.agg W := by
  obtain ⟨c0, c1, c2, c3, _⟩ := agg4 h
  clear h
  simp [results, Try.f20, go_sem, h2, c0, c1, c2, c3, Cmd.agg]

theorem bare_any (c : Cmd) (w : World) : Calls Try.prog 20 #[c.agg] w fun e w' => e = .returned (bareF c).agg ∧ Below w.heap.size w w' := by
  obtain ⟨kd, s, dt, tg⟩ := c
  rw [show Cmd.agg ⟨kd, s, dt, tg⟩ = .agg #[.int .i64 kd, .int .i64 s, .string dt, .int .i64 tg] from rfl]
  by_cases h4 : kd = 4
  · subst h4
    obtain ⟨w0, hw0⟩ : ∃ w0, w0 = (w.alloc (Obj.cells #[.int .i64 4, .int .i64 0, .string dt, .int .i64 tg] 37)).alloc (Obj.cells #[.int .i64 0, .int .i64 0, .string ⟨#[]⟩, .int .i64 0] 37) := ⟨_, rfl⟩
    have HB0 : Hid (Below w.heap.size w w0) := by rw [hw0]; exact ((Below.refl _ _).alloc (Nat.le_refl _) _).alloc (by simp) _
    have HX0 : Hid (w0.heap[w.heap.size]? = some (.cells #[.int .i64 4, .int .i64 0, .string dt, .int .i64 tg] 37 (0, 0))) := by rw [hw0]; exact (Below.heap_alloc _ _ _ (by simp)).trans (heap_alloc_new w _)
    have HY0 : Hid (w0.heap[w.heap.size + 1]? = some (.cells #[.int .i64 0, .int .i64 0, .string ⟨#[]⟩, .int .i64 0] 37 (0, 0))) := by
      rw [hw0]
      have := heap_alloc_new (w.alloc (Obj.cells #[.int .i64 4, .int .i64 0, .string dt, .int .i64 tg] 37)) (Obj.cells #[.int .i64 0, .int .i64 0, .string ⟨#[]⟩, .int .i64 0] 37)
      rw [World.size_alloc] at this
      exact this
    go_enter Try.func20, Try.ntmps20
    go_wp2_with fail
    rw [← hw0]
    clear hw0
    refine (isWrite_any ⟨4, 0, dt, tg⟩ _).mono ?_
    rintro e w1 ⟨rfl, hb⟩
    rw [show isW ⟨4, 0, dt, tg⟩ = false from rfl]
    have HX2 : Hid (w1.heap[w.heap.size]? = _) := (hb.block _ (lt_of_heap HX0.out)).trans HX0.out
    have HY2 : Hid (w1.heap[w.heap.size + 1]? = _) := (hb.block _ (lt_of_heap HY0.out)).trans HY0.out
    have HB2 : Hid (Below w.heap.size w w1) := HB0.out.trans (hb.mono HB0.out.size)
    obtain ⟨a0, a1, a2, a3, z0, z1, z2, z3⟩ := agg4 HX2.out
    obtain ⟨c0, c1, c2, c3, y0, y1, y2, y3⟩ := agg4 HY2.out
    clear hb
    go_wp2
    refine bodyPost_ret (res_bare _ (w.heap.size + 1) _ ⟨4, 0, ⟨#[]⟩, tg⟩ rfl (set4_heap ((heap_setCell_other w1 ⟨w.heap.size, 2, none⟩ _ _ (by show w.heap.size + 1 ≠ w.heap.size; omega)).trans HY2.out) _ _ _ _)) rfl ?_
    exact ⟨rfl, set4_below (HB2.out.setCell (p := ⟨w.heap.size, 2, none⟩) (Nat.le_refl _) _) _ (by omega) _ _ _ _⟩
  · have hk : (kd == 4) = false := by simpa using h4
    have HF : Hid (bareF ⟨kd, s, dt, tg⟩ = ⟨kd, s, if isW ⟨kd, s, dt, tg⟩ = true then dt else ⟨#[]⟩, tg⟩) := by show _ = _; simp [bareF, h4]
    clear h4
    obtain ⟨w0, hw0⟩ : ∃ w0, w0 = (w.alloc (Obj.cells #[.int .i64 kd, .int .i64 s, .string dt, .int .i64 tg] 37)).alloc (Obj.cells #[.int .i64 0, .int .i64 0, .string ⟨#[]⟩, .int .i64 0] 37) := ⟨_, rfl⟩
    have HB0 : Hid (Below w.heap.size w w0) := by rw [hw0]; exact ((Below.refl _ _).alloc (Nat.le_refl _) _).alloc (by simp) _
    have HX0 : Hid (w0.heap[w.heap.size]? = some (.cells #[.int .i64 kd, .int .i64 s, .string dt, .int .i64 tg] 37 (0, 0))) := by rw [hw0]; exact (Below.heap_alloc _ _ _ (by simp)).trans (heap_alloc_new w _)
    have HY0 : Hid (w0.heap[w.heap.size + 1]? = some (.cells #[.int .i64 0, .int .i64 0, .string ⟨#[]⟩, .int .i64 0] 37 (0, 0))) := by
      rw [hw0]
      have := heap_alloc_new (w.alloc (Obj.cells #[.int .i64 kd, .int .i64 s, .string dt, .int .i64 tg] 37)) (Obj.cells #[.int .i64 0, .int .i64 0, .string ⟨#[]⟩, .int .i64 0] 37)
      rw [World.size_alloc] at this
      exact this
    go_enter Try.func20, Try.ntmps20
    go_wp2_with fail
    rw [← hw0]
    clear hw0
    refine (isWrite_any ⟨kd, s, dt, tg⟩ _).mono ?_
    rintro e w1 ⟨rfl, hb⟩
    have HX2 : Hid (w1.heap[w.heap.size]? = _) := (hb.block _ (lt_of_heap HX0.out)).trans HX0.out
    have HY2 : Hid (w1.heap[w.heap.size + 1]? = _) := (hb.block _ (lt_of_heap HY0.out)).trans HY0.out
    have HB2 : Hid (Below w.heap.size w w1) := HB0.out.trans (hb.mono HB0.out.size)
    obtain ⟨a0, a1, a2, a3, z0, z1, z2, z3⟩ := agg4 HX2.out
    obtain ⟨c0, c1, c2, c3, y0, y1, y2, y3⟩ := agg4 HY2.out
    clear hb
    cases hw : isW ⟨kd, s, dt, tg⟩
    · rw [hw] at HF
      go_wp2
      refine bodyPost_ret (res_bare _ (w.heap.size + 1) _ ⟨kd, s, ⟨#[]⟩, tg⟩ rfl (set4_heap ((heap_setCell_other w1 ⟨w.heap.size, 2, none⟩ _ _ (by show w.heap.size + 1 ≠ w.heap.size; omega)).trans HY2.out) _ _ _ _)) rfl ?_
      exact ⟨by rw [HF.out]; rfl, set4_below (HB2.out.setCell (p := ⟨w.heap.size, 2, none⟩) (Nat.le_refl _) _) _ (by omega) _ _ _ _⟩
    · rw [hw] at HF
      go_wp2
      refine bodyPost_ret (res_bare _ (w.heap.size + 1) _ ⟨kd, s, dt, tg⟩ rfl (set4_heap HY2.out _ _ _ _)) rfl ?_
      exact ⟨by rw [HF.out]; rfl, set4_below HB2.out _ (by omega) _ _ _ _⟩

end Go.Proofs.Ytkfphmhnaelflaa.Nv
