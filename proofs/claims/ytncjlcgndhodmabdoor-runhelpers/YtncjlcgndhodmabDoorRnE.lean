/-
  Layer 19's and 20's Ends of a program without loops. Condition: it is short.
-/
import Derived.Test.YtncjlcgndhodmabDoorRnI
import Derived.Laws.MakeOwn
namespace Go.Proofs.YtncjlcgndhodmabDoor.Rn
open Go.ChangeShapes Go.WideShapes Go.ChangeAt Go.RowKit
open Go.Proofs.YtncjlcgndhodmabDoor.Cd
open Go.Proofs.YtncjlcgndhodmabDoor.Nv (lt_of_heap lt_of_cell cell_of_heap free_of_heap)

set_option maxRecDepth 100000
set_option maxHeartbeats 2000000

def intOf : Value → Int | .int _ n => n | _ => 0
theorem infoInt : (Tryd.prog.info? 3).map (fun i => (i.zero, i.size, i.bytes)) = some (some (.int .i64 0), 1, 8) := by kernel_rfl
theorem make_ints (n : Nat) (h : n ≤ 100000) (W : World) :
    Sem.run Tryd.prog (Instr.makeSlice 52 (.int .i64 n) (.int .i64 n)) W = .ok (.slice (some ⟨W.heap.size, 0, none⟩) n n) (W.alloc (.cells (madeCells (Value.int .i64 0).cells n) 3)) := by
  obtain ⟨i0, hi, hi2⟩ := Option.map_eq_some_iff.1 infoInt
  have hz0 : i0.zero = some (.int .i64 0) := by have := congrArg Prod.fst hi2; exact this
  have hz1 : i0.size = 1 := congrArg (fun x => x.2.1) hi2
  have hz2 : i0.bytes = 8 := congrArg (fun x => x.2.2) hi2
  have := run_makeSlice (P := Tryd.prog) W 52 3 i0 (.int .i64 0) Tryd.underlying52 hi hz0 .i64 .i64 n n (by omega) (Int.le_refl _) (by rw [hz1]; omega) (by rw [hz2]; omega) (by omega)
  rw [hz1, Nat.mul_one, Int.toNat_natCast] at this
  exact this

theorem ends_plain (v : Value) (l : List In4) (w : World) (h : InsAt w v l) (hl : l.length ≤ 1000) (hno : ∀ x ∈ l, x.op ≠ 17 ∧ x.op ≠ 18) :
    Calls Tryd.prog 14 #[v] w fun r w' => (∃ a, r = .returned (.slice a l.length l.length)) ∧ Below w.heap.size w w' := by
  have HI : Hid (InsAt w v l) := h
  have HNO : Hid (∀ x ∈ l, x.op ≠ 17 ∧ x.op ≠ 18) := hno
  obtain ⟨a, cap, rfl⟩ := h.slice
  obtain ⟨n, hn⟩ : ∃ n, l.length = n := ⟨_, rfl⟩
  have HLN : Hid (l.length = n) := hn
  rw [hn] at hl ⊢
  clear h hno hn
  have hmk := make_ints n (by omega) w
  go_enter Tryd.func14, Tryd.ntmps14
  go_wp2_with fail
  clear hmk
  go_loopw [13] (fun iv wr => ∃ k : Nat, k ≤ n ∧ iv = .int .i64 k ∧ Below w.heap.size w wr) (fun iv _ => n - (intOf iv).toNat)
  case atStart => exact ⟨0, Nat.zero_le _, rfl, (Below.refl _ _).alloc (Nat.le_refl _) _⟩
  case round =>
    obtain ⟨k, hk, rfl, hB⟩ := hrel
    have HB : Hid (Below w.heap.size w wr) := hB
    clear hB
    by_cases hlt : k < n
    · have hkl : k < l.length := by rw [HLN.out]; exact hlt
      obtain ⟨g, off, cap', he, h1, h2, h3, h4⟩ : ∃ g off cap', Value.slice a n cap = .slice (some ⟨g, off, none⟩) n cap' ∧ n ≤ cap' ∧ cap' ≤ 9223372036854775807 ∧ g < w.heap.size ∧ ∀ i (h : i < l.length), w.cell? ⟨g, off + i * 4, none⟩ = some (.int .i64 l[i].op) ∧ w.cell? ⟨g, off + i * 4 + 1, none⟩ = some (.int .i64 l[i].d) ∧ w.cell? ⟨g, off + i * 4 + 2, none⟩ = some (.int .i64 l[i].s) ∧ w.cell? ⟨g, off + i * 4 + 3, none⟩ = some (.int .i64 l[i].imm) := by
        rcases HI.out with ⟨_, h0⟩ | ⟨g, off, cap', he, h1, h2, h3, h4⟩
        · rw [h0] at hkl
          cases hkl
        · rw [HLN.out] at he h1
          exact ⟨g, off, cap', he, h1, h2, h3, h4⟩
      cases he
      obtain ⟨e0, e1, e2, e3⟩ := h4 k hkl
      have a0 := (World.cell?_of_block (a := ⟨g, off + k * 4, none⟩) (HB.out.block g h3)).trans e0
      have a1 := (World.cell?_of_block (a := ⟨g, off + k * 4 + 1, none⟩) (HB.out.block g h3)).trans e1
      have a2 := (World.cell?_of_block (a := ⟨g, off + k * 4 + 2, none⟩) (HB.out.block g h3)).trans e2
      have a3 := (World.cell?_of_block (a := ⟨g, off + k * 4 + 3, none⟩) (HB.out.block g h3)).trans e3
      obtain ⟨n7, n8⟩ := HNO.out _ (List.getElem_mem hkl)
      have b7 : (l[k].op == 17) = false := beq_eq_false_iff_ne.2 n7
      have b8 : (l[k].op == 18) = false := beq_eq_false_iff_ne.2 n8
      clear e0 e1 e2 e3 h4 n7 n8
      generalize l[k] = x at *
      go_wp2_with fail
      go_roundw
      case rel => exact ⟨k + 1, by omega, by go_num, HB.out.alloc HB.out.size _⟩
      case measure => simp [intOf]; omega
    · go_wp2_with fail
      go_ret
      exact ⟨⟨_, rfl⟩, HB.out⟩

end Go.Proofs.YtncjlcgndhodmabDoor.Rn
