/-
  The document's list of an inode's sectors. Condition: extents that lie below 2048.
-/
import Derived.Test.YtkfphmhnaelflacGreatDoorIdRef
namespace Go.Proofs.YtkfphmhnaelflacGreatDoor.Id
open Go.ChangeShapes Go.WideShapes Go.ChangeAt Go.RowKit Go.Proofs.Fa

theorem info_int : (Tryz.prog.info? 3).map (fun i => (i.zero, i.size, i.bytes)) = some (some (.int .i64 0), 1, 8) := by kernel_rfl
theorem icells_append (a b : List Int) : icells (a ++ b) = icells a ++ icells b := by simp [icells]
theorem cells_newI (w : World) (k : Nat) (hk : w.heap.size = k) (v0 : Value) (t : TypeId) (j : Nat) (u : Value) (h : [v0][j]? = some u) : (w.alloc (Obj.cells #[v0] t)).cell? ((⟨k, 0, none⟩ : Addr).add j) = some u := by
  subst hk
  have e : (⟨w.heap.size, 0, none⟩ : Addr).add j = ⟨w.heap.size, j, none⟩ := by simp [Addr.add_lit]
  rw [e]
  exact cell_of_heap (heap_alloc_new w _) j u (by simpa using h)

/-- The first sectors of an extent. -/
def upF (p : Int) (k : Nat) : List Int := (List.range k).map (fun j => p + ((j : Nat) : Int))
theorem upF_succ (p : Int) (k : Nat) : upF p (k + 1) = upF p k ++ [p + (k : Int)] := by unfold upF; rw [List.range_succ]; simp
theorem upF_length (p : Int) (k : Nat) : (upF p k).length = k := by simp [upF]
theorem secF_drop (l : List Ext) (i : Nat) (hi : i < l.length) : secF (l.drop i) = upF l[i].pos l[i].len.toNat ++ secF (l.drop (i + 1)) := by rw [List.drop_eq_getElem_cons hi]; rfl

variable {w : World} {B : Nat}
set_option maxRecDepth 100000
set_option maxHeartbeats 1000000

end Go.Proofs.YtkfphmhnaelflacGreatDoor.Id
