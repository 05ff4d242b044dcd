/-
  Two who look: what speaks answers. No condition.
-/
import Derived.Test.YtgfbcekmnpdoeaaHdXs
namespace Go.Proofs.Ytgfbcekmnpdoeaa.Hds
open Go.ChangeShapes Go.WideShapes Go.ChangeAt Go.RowKit Go.Proofs.Fa Go.Proofs.Ytgfbcekmnpdoeaa.Hd
open Go.Proofs.Ytgfbcekmnpdoeaa.Nv (Turn Grow lt_of_heap lt_of_cell cell_of_heap free_of_heap icells scells icells_one scells_one)

set_option maxRecDepth 100000
set_option maxHeartbeats 2000000

theorem one_of {w : World} {B : Nat} {v : Value} {x : ByteArray} (h : TRow w B v [x]) : ∃ g cap, v = .slice (some ⟨g, 0, none⟩) 1 cap ∧ 1 ≤ cap ∧ cap ≤ 9223372036854775807 ∧ w.cell? ⟨g, 0, none⟩ = some (.string x) := by
  rcases h.2 with ⟨_, h0⟩ | ⟨g, cap, cur, rfl, hb, hg, hnc, hcm, _⟩
  · cases h0
  · refine ⟨g, cap, rfl, hnc, hcm, ?_⟩
    have := World.ownsRow.cells (g := g) h rfl 0 _ rfl
    simpa [Addr.add_lit] using this

theorem speaks_any (w : World) : Calls Try.prog 7 #[] w fun e w' => e = .returned (.bool true) ∧ Below w.heap.size w w' := by
  have H0 := PlayX.new w
  have hH0 : ∀ k, k < w.heap.size → k < (w.alloc (Obj.cells #[.int .i64 0, .map none, .int .i64 0, .slice none 0 0] 75)).heap.size := fun k hk => by rw [World.size_alloc]; omega
  have hE0 := x_enter H0 (by decide) hH0
  clear H0
  go_enter Try.func7, Try.ntmps7
  go_wp2_with fail
  refine hE0.mono ?_
  rintro e w1 ⟨rfl, h1, k1⟩
  clear hE0 hH0
  have hH1 : ∀ k, k < w.heap.size → k < w1.heap.size := fun k hk => by have := h1.bel.size; omega
  have hD1 := x_drop1 h1 (by decide) ⟨#[120]⟩ (by decide) hH1
  clear h1 k1
  go_wp2_with fail
  refine hD1.mono ?_
  rintro e w2 ⟨rfl, h2, k2⟩
  clear hD1 hH1
  have hH2 : ∀ k, k < w.heap.size → k < w2.heap.size := fun k hk => by have := h2.bel.size; omega
  have hE2 := x_enter h2 (by decide) hH2
  clear h2 k2
  go_wp2_with fail
  refine hE2.mono ?_
  rintro e w3 ⟨rfl, h3, k3⟩
  clear hE2 hH2
  have hH3 : ∀ k, k < w.heap.size → k < w3.heap.size := fun k hk => by have := h3.bel.size; omega
  have hD3 := x_drop1 h3 (by decide) ⟨#[121]⟩ (by decide) hH3
  clear h3 k3
  go_wp2_with fail
  refine hD3.mono ?_
  rintro e w4 ⟨rfl, h4, k4⟩
  clear hD3 hH3
  have hL4 := x_leave h4 1 (by decide)
  clear h4 k4
  go_wp2_with fail
  refine hL4.mono ?_
  rintro e w5 ⟨⟨v5, rfl, r5⟩, h5, k5⟩
  clear hL4
  have hL5 := x_leave h5 2 (by decide)
  have hs5 := r5.slice
  clear h5 k5
  obtain ⟨va, vc, rfl⟩ := hs5
  go_wp2_with fail
  refine hL5.mono ?_
  rintro e w6 ⟨⟨v6, rfl, r6⟩, h6, k6⟩
  clear hL5
  have r5' := k6.row r5 (fun g hg => .inr (by have := TRow.ge r5 g hg; have := TRow.lt r5 g hg; omega))
  obtain ⟨g5, p5, e5, _, _, c5⟩ := one_of (x := ⟨#[120]⟩) r5'
  obtain ⟨g6, p6, rfl, _, _, c6⟩ := one_of (x := ⟨#[121]⟩) r6
  cases e5
  have HB : Hid (Below w.heap.size w w6) := h6.bel
  clear h6 k6 r5 r5' r6
  go_wp2
  go_ret
  exact ⟨rfl, HB.out⟩

end Go.Proofs.Ytgfbcekmnpdoeaa.Hds
