/-
  The inode's small calls: an extent's end, whether it lies below a bound, whether two meet. No condition.
-/
import Derived.Test.YtkfphmhnaelflacGreatDoorIdM
namespace Go.Proofs.YtkfphmhnaelflacGreatDoor.Id
open Go.ChangeShapes Go.WideShapes Go.ChangeAt Go.RowKit

theorem lt_of_heap {w : World} {b : Nat} {o : Obj} (h : w.heap[b]? = some o) : b < w.heap.size := by
  rcases Nat.lt_or_ge b w.heap.size with hl | hl
  · exact hl
  · rw [Array.getElem?_eq_none hl] at h; cases h
theorem lt_of_cell {w : World} {b i : Nat} {v : Value} (h : w.cell? ⟨b, i, none⟩ = some v) : b < w.heap.size := by
  rcases Nat.lt_or_ge b w.heap.size with hl | hl
  · exact hl
  · simp [World.cell?, Array.getElem?_eq_none hl] at h
theorem cell_of_heap {w : World} {b : Nat} {c : Array Value} {t : TypeId} (h : w.heap[b]? = some (.cells c t (0, 0))) (i : Nat) (v : Value) (hv : c[i]? = some v) : w.cell? ⟨b, i, none⟩ = some v := by
  simp [World.cell?, h, hv]
theorem free_of_heap {w : World} {b : Nat} {c : Array Value} {t : TypeId} (h : w.heap[b]? = some (.cells c t (0, 0))) (i : Nat) : w.frozen? ⟨b, i, none⟩ = false := by
  simp [World.frozen?, h]

/-- A row stays where nothing old is turned. -/
theorem row_below {w w' : World} {B C e size n : Nat} {v : Value} {xs : List Value} (h : w.ownsRow B e size v n xs) (hb : Below C w w') (hC : w.heap.size ≤ C) : w'.ownsRow B e size v n xs := by
  refine ⟨h.1, ?_⟩
  rcases h.2 with hn | ⟨g, cap, cur, rfl, hb', hg, rest⟩
  · exact .inl hn
  · exact .inr ⟨g, cap, cur, rfl, hb', (hb.block g (Nat.lt_of_lt_of_le (lt_of_heap hg) hC)).trans hg, rest⟩
theorem row_lt {w : World} {B e size n : Nat} {v : Value} {xs : List Value} (h : w.ownsRow B e size v n xs) (g : Nat) (hg : v.ownBlock = some g) : g < w.heap.size := by
  rcases h.2 with ⟨rfl, _⟩ | ⟨g', cap, cur, rfl, hb, hgg, _⟩
  · cases hg
  · cases hg; exact lt_of_heap hgg
theorem row_ge {w : World} {B e size n : Nat} {v : Value} {xs : List Value} (h : w.ownsRow B e size v n xs) (k : Nat) (hk : v.ownBlock = some k) : B ≤ k := by
  rcases h.2 with ⟨rfl, _⟩ | ⟨g, cap, cur, rfl, hb, _⟩
  · cases hk
  · cases hk; exact hb
theorem row_base {w : World} {B B' e size n : Nat} {v : Value} {xs : List Value} (h : w.ownsRow B e size v n xs) (hB : B' ≤ B) : w.ownsRow B' e size v n xs := by
  refine ⟨h.1, ?_⟩
  rcases h.2 with hn | ⟨g, cap, cur, rfl, hb, rest⟩
  · exact .inl hn
  · exact .inr ⟨g, cap, cur, rfl, Nat.le_trans hB hb, rest⟩
theorem row_slice {w : World} {B e size n : Nat} {v : Value} {xs : List Value} (h : w.ownsRow B e size v n xs) : ∃ a cap, v = .slice a n cap ∧ n ≤ maxLen := by
  rcases h.2 with ⟨rfl, rfl⟩ | ⟨g', cap, cur, rfl, hb, hgg, hnc, hcm, _⟩
  · exact ⟨none, 0, rfl, Nat.zero_le _⟩
  · exact ⟨_, _, rfl, by omega⟩
theorem row_some {w : World} {B e size n : Nat} {v : Value} {xs : List Value} (h : w.ownsRow B e size v n xs) (hn : 0 < n) : ∃ g cap, v = .slice (some ⟨g, 0, none⟩) n cap := by
  rcases h.2 with ⟨rfl, rfl⟩ | ⟨g', cap, cur, rfl, hb, hgg, hnc, hcm, _⟩
  · omega
  · exact ⟨_, _, rfl⟩

/-- A row of extents. -/
def Row (w : World) (B : Nat) (v : Value) (l : List Ext) : Prop := w.ownsRow B 51 2 v l.length (ecells l)
theorem Row.ext {w : World} {B : Nat} {l : List Ext} {g n cap : Nat} (h : Row w B (.slice (some ⟨g, 0, none⟩) n cap) l) (k : Nat) (hk : k < l.length) : w.cell? ⟨g, k * 2, none⟩ = some (.int .i64 l[k].pos) ∧ w.cell? ⟨g, k * 2 + 1, none⟩ = some (.int .i64 l[k].len) := by
  have hc := World.ownsRow.cells (g := g) h rfl
  obtain ⟨h0, h1⟩ := ecells_at l k l[k] (List.getElem?_eq_getElem hk)
  have e0 := hc (k * 2) _ h0
  have e1 := hc (k * 2 + 1) _ h1
  simp only [Addr.add_lit, Nat.zero_add] at e0 e1
  exact ⟨e0, e1⟩

set_option maxRecDepth 100000
set_option maxHeartbeats 1000000

theorem end_any (e : Ext) (w : World) (h : 0 ≤ e.pos ∧ e.pos ≤ 4096 ∧ 0 ≤ e.len ∧ e.len ≤ 4096) : Calls Tryz.prog 35 #[e.agg] w fun r w' => r = .returned (.int .i64 (e.pos + e.len)) ∧ w' = w.alloc (Obj.cells #[.int .i64 e.pos, .int .i64 e.len] 51) := by
  obtain ⟨p, l⟩ := e
  simp only [Ext.agg]
  dsimp only at h
  go_enter Tryz.func35, Tryz.ntmps35
  go_wp2
  go_ret
  exact ⟨rfl, rfl⟩

theorem below_any (e : Ext) (s : Int) (w : World) (he : -9223372036854775808 ≤ e.pos ∧ e.pos ≤ 9223372036854775807) (hs : 0 ≤ s ∧ s ≤ 4096) : Calls Tryz.prog 25 #[e.agg, .int .i64 s] w fun r w' => r = .returned (.bool (belowF e s)) ∧ Below w.heap.size w w' := by
  obtain ⟨p, l⟩ := e
  simp only [Ext.agg]
  dsimp only at he
  by_cases h0 : 0 ≤ p
  · by_cases h1 : 1 ≤ l
    · rw [show belowF ⟨p, l⟩ s = decide (l ≤ s - p) by simp [belowF, h0, h1]]
      go_enter Tryz.func25, Tryz.ntmps25
      go_wp2
      go_ret
      exact ⟨rfl, (Below.refl _ _).alloc (Nat.le_refl _) _⟩
    · rw [show belowF ⟨p, l⟩ s = false by simp [belowF, h0, h1]]
      go_enter Tryz.func25, Tryz.ntmps25
      go_wp2
      go_ret
      exact ⟨rfl, (Below.refl _ _).alloc (Nat.le_refl _) _⟩
  · rw [show belowF ⟨p, l⟩ s = false by simp [belowF, h0]]
    go_enter Tryz.func25, Tryz.ntmps25
    go_wp2
    go_ret
    exact ⟨rfl, (Below.refl _ _).alloc (Nat.le_refl _) _⟩

end Go.Proofs.YtkfphmhnaelflacGreatDoor.Id
