/-
  Unwrap of many: two errors in new memory. No condition.
-/
import Derived.Test.YtocfhejjmefmcaaDoorFaPush
import Derived.Lib.BufferMore
namespace Go.Proofs.YtocfhejjmefmcaaDoor.Fa
open Go.ChangeShapes Go.WideShapes Go.ChangeAt Go.RowKit Go.Proofs.Fa

theorem info_err : (Tryd.prog.info? 25).map (fun i => (i.zero, i.size, i.bytes)) = some (some .nilIface, 1, 16) := by kernel_rfl

theorem two_at0 (u v : Value) (r : Array Value) : (#[u, v] ++ r)[0]? = some u := by rw [Array.getElem?_append_left (by simp)]; rfl
theorem two_at1 (u v : Value) (r : Array Value) : (#[u, v] ++ r)[1]? = some v := by rw [Array.getElem?_append_left (by simp)]; rfl

/-- append of two cells to nothing, in the place of another slice: a new block. -/
theorem wpList_clone2 {P : Program} (w : World) {ops : Array Oper} {rest : List Oper} {o : Oper} {a : Act} {Q : Exit → Act → World → Prop} (hgd : o.guard = none) (s x : Operand) (t : TypeId)
    (ho : o.op = .call { callee := .builtin .append, args := #[s, x], argTypes := #[t, t] })
    (e : TypeId) (i : TypeInfo) (z : Value) (ht : P.underlying t = some (.slice e)) (hi : P.info? e = some i) (hz : i.zero = some z) (h1 : i.size = 1) (h2 : i.bytes = 16)
    (q g cap : Nat) (u v : Value) (hs : a.eval s = .slice (some ⟨q, 0, none⟩) 0 0) (hx : a.eval x = .slice (some ⟨g, 0, none⟩) 2 cap)
    (hu : w.cell? ⟨g, 0, none⟩ = some u) (hv : w.cell? ⟨g, 1, none⟩ = some v)
    (h : ∀ cap' w', w'.cell? ⟨w.heap.size, 0, none⟩ = some u → w'.cell? ⟨w.heap.size, 1, none⟩ = some v → Below w.heap.size w w' → wpList P ops Q rest (a.put o.dst (.slice (some ⟨w.heap.size, 0, none⟩) 2 cap')) w') : wpList P ops Q (o :: rest) a w := by
  have hr := run_append_grow (P := P) w t o.type e i z ht hi hz ⟨q, 0, none⟩ 0 0 [] (by simp) (by simp) ⟨g, 0, none⟩ 2 cap [u, v] (by simp [h1]) (by
    intro j r hq
    match j with
    | 0 => cases hq; simpa [Addr.add_lit] using hu
    | 1 => cases hq; simpa [Addr.add_lit] using hv
    | j + 2 => simp at hq) (by omega) (by decide) (growslice_fits (by omega) (by rw [h2]; decide))
  refine wpList_plain hgd fun _ hK => ?_
  unfold Oper.wp execOp
  simp only [ho, resolve, invoke, builtin, Sem.run_bind, Sem.run_pure, Result.andThen_ok, List.map_toArray, List.map_cons, List.map_nil, hs, hx, hr]
  refine hK _ _ (h _ _ ?_ ?_ ?_)
  · exact (cell_of_row _ _ _ _ _ (0, 0) (heap_alloc_new w.drew _)).trans (by rw [Array.empty_append]; exact two_at0 _ _ _)
  · exact (cell_of_row _ _ _ _ _ (0, 0) (heap_alloc_new w.drew _)).trans (by rw [Array.empty_append]; exact two_at1 _ _ _)
  · exact (Below.refl _ w).drew.alloc (Nat.le_refl _) _

set_option maxRecDepth 100000
set_option maxHeartbeats 2000000
theorem clone_two (g cap : Nat) (u v : Value) (w : World) (hu : w.cell? ⟨g, 0, none⟩ = some u) (hv : w.cell? ⟨g, 1, none⟩ = some v) :
    Calls Tryd.prog 41 #[.slice (some ⟨g, 0, none⟩) 2 cap] w fun e w' => ∃ k cap', e = .returned (.slice (some ⟨k, 0, none⟩) 2 cap') ∧ w.heap.size ≤ k ∧ w'.cell? ⟨k, 0, none⟩ = some u ∧ w'.cell? ⟨k, 1, none⟩ = some v ∧ Below w.heap.size w w' := by
  obtain ⟨i0, hi, hz0, hz1, hz2⟩ := info_parts info_err
  have HU : Hid (w.cell? ⟨g, 0, none⟩ = some u) := hu
  have HV : Hid (w.cell? ⟨g, 1, none⟩ = some v) := hv
  clear hu hv
  have he := Lib.run_eql_slice_some_nil (P := Tryd.prog) w ⟨g, 0, none⟩ 2 cap Tryd.underlying56
  have HU1 : Hid (∀ o, (w.alloc o).cell? ⟨g, 0, none⟩ = some u) := fun o => (((Below.refl _ w).alloc (Nat.le_refl _) o).cell (p := ⟨g, 0, none⟩) (lt_of_cell HU.out)).trans HU.out
  have HV1 : Hid (∀ o, (w.alloc o).cell? ⟨g, 1, none⟩ = some v) := fun o => (((Below.refl _ w).alloc (Nat.le_refl _) o).cell (p := ⟨g, 1, none⟩) (lt_of_cell HV.out)).trans HV.out
  go_enter Tryd.func41, Tryd.ntmps41
  go_wp2_with (at_builtin; refine wpList_clone2 _ rfl _ _ 56 rfl 25 i0 _ Tryd.underlying56 hi hz0 hz1 hz2 w.heap.size g cap u v rfl rfl (HU1.out _) (HV1.out _) ?_; intro cap' w1 h0 h1 hb)
  go_ret
  rw [World.size_alloc] at h0 h1
  exact ⟨_, _, rfl, by simp, h0, h1, ((Below.refl _ w).alloc (Nat.le_refl _) _).trans (hb.mono (by simp))⟩

theorem many_unwrap (g cap : Nat) (u v : Value) (w : World) (hu : w.cell? ⟨g, 0, none⟩ = some u) (hv : w.cell? ⟨g, 1, none⟩ = some v) :
    Calls Tryd.prog 21 #[.slice (some ⟨g, 0, none⟩) 2 cap] w fun e w' => ∃ k cap', e = .returned (.slice (some ⟨k, 0, none⟩) 2 cap') ∧ w.heap.size ≤ k ∧ w'.cell? ⟨k, 0, none⟩ = some u ∧ w'.cell? ⟨k, 1, none⟩ = some v ∧ Below w.heap.size w w' := by
  have HU : Hid (w.cell? ⟨g, 0, none⟩ = some u) := hu
  have HV : Hid (w.cell? ⟨g, 1, none⟩ = some v) := hv
  clear hu hv
  go_enter Tryd.func21, Tryd.ntmps21
  go_wp2_with fail
  refine (clone_two _ _ _ _ _ HU.out HV.out).mono ?_
  rintro e w1 ⟨k, cap', rfl, hk, h0, h1, hb⟩
  go_wp2
  go_ret
  exact ⟨_, _, rfl, hk, h0, h1, hb⟩

end Go.Proofs.YtocfhejjmefmcaaDoor.Fa
