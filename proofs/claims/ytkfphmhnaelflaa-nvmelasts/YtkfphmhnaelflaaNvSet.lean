/-
  Commands' data become what lasts. No condition.
-/
import Derived.Test.YtkfphmhnaelflaaNvF
import Derived.Handy
import Derived.LoopN
import Derived.WalkSmall
import Derived.Deep.RegionHeld3
namespace Go.Proofs.Ytkfphmhnaelflaa.Nv
open Go.ChangeShapes Go.WideShapes Go.ChangeAt Go.RowKit Go.Proofs.Fa

variable {w : World} {S : Nat → Prop} {b : Nat} {d : Dev} {vl vc vw vk : Value}

/-- The cells of a command of a row. -/
theorem row_cmd {w : World} {B g n cap : Nat} {l : List Cmd} (h : w.ownsRow B 37 4 (.slice (some ⟨g, 0, none⟩) n cap) l.length (ccells l)) (k : Nat) (hk : k < l.length) :
    w.cell? ⟨g, k * 4, none⟩ = some (.int .i64 l[k].kind) ∧ w.cell? ⟨g, k * 4 + 1, none⟩ = some (.int .i64 l[k].sector) ∧ w.cell? ⟨g, k * 4 + 2, none⟩ = some (.string l[k].data) ∧ w.cell? ⟨g, k * 4 + 3, none⟩ = some (.int .i64 l[k].tag) := by
  have hc := ccells_at l k l[k] (List.getElem?_eq_getElem hk)
  have hx : ∀ j u, (ccells l)[j]? = some u → w.cell? ⟨g, j, none⟩ = some u := by
    intro j u hu
    have := h.cells (g := g) rfl j u hu
    simpa [Addr.add_lit] using this
  exact ⟨hx _ _ hc.1, hx _ _ hc.2.1, hx _ _ hc.2.2.1, hx _ _ hc.2.2.2⟩
/-- The cells of a text of a row. -/
theorem row_str {w : World} {B g n cap : Nat} {l : List ByteArray} (h : w.ownsRow B 9 1 (.slice (some ⟨g, 0, none⟩) n cap) l.length (scells l)) (k : Nat) (hk : k < l.length) : w.cell? ⟨g, k, none⟩ = some (.string l[k]) := by
  have := h.cells (g := g) rfl k (.string l[k]) (by simp [scells, hk])
  simpa [Addr.add_lit] using this
theorem row_free {w : World} {B e size n : Nat} {v : Value} {xs : List Value} (h : w.ownsRow B e size v n xs) (g : Nat) (hg : v.ownBlock = some g) (k : Nat) : w.frozen? ⟨g, k, none⟩ = false := by
  rcases h.2 with ⟨rfl, _⟩ | ⟨g', cap, cur, rfl, hb, hgg, _⟩
  · cases hg
  · cases hg; exact free_of_heap hgg k
/-- A row of more than nothing has a block. -/
theorem row_some {w : World} {B e size n : Nat} {v : Value} {xs : List Value} (h : w.ownsRow B e size v n xs) (hn : 1 ≤ n) : ∃ g cap, v = .slice (some ⟨g, 0, none⟩) n cap := by
  rcases h.2 with ⟨rfl, rfl⟩ | ⟨g, cap, cur, rfl, _⟩
  · omega
  · exact ⟨g, cap, rfl⟩
/-- One text of a row is put anew. -/
theorem row_set_str {w : World} {B : Nat} {v : Value} {g : Nat} {l : List ByteArray} (h : w.ownsRow B 9 1 v l.length (scells l)) (hg : v.ownBlock = some g) (k : Nat) (s : ByteArray) :
    (w.setCell ⟨g, k, none⟩ (.string s)).ownsRow B 9 1 v (l.set k s).length (scells (l.set k s)) := by
  rcases h.2 with ⟨rfl, _⟩ | ⟨g', cap, cur, rfl, hb, hgg, hnc, hcm, hcs, ht⟩
  · cases hg
  · cases hg
    refine ⟨by simp [scells], .inr ⟨_, cap, cur.setIfInBounds k (.string s), by rw [List.length_set], hb, heap_setCell_same w _ k cur _ _ hgg, by rw [List.length_set]; exact hnc, hcm, by simpa using hcs, ?_⟩⟩
    rw [List.length_set]
    have e : (cur.setIfInBounds k (.string s)).toList = cur.toList.set k (.string s) := by simp
    rw [e, List.take_set, ht]
    simp [scells, List.map_set]

set_option maxRecDepth 100000
set_option maxHeartbeats 4000000

theorem settle_any (h : DevIn w S b d vl vc vw vk) (v : Value) (l : List Cmd) (hr : w.ownsRow 0 37 4 v l.length (ccells l)) (hs : ∀ c ∈ l, 0 ≤ c.sector ∧ c.sector < d.lasting.length) (hn : l.length ≤ 4000000) (hd : d.lasting.length ≤ 100000) :
    Calls Try.prog 28 #[.pointer (some ⟨b, 0, none⟩), v] w fun e w' => (∃ u, e = .returned u) ∧ DevIn w' (Grow S w w') b { d with lasting := settleL d.lasting l } vl vc vw vk ∧ Turn (fun k => vl.ownBlock = some k) w w' := by
  obtain ⟨a, cap, rfl, _⟩ := row_slice hr
  have HD : Hid (DevIn w S b d vl vc vw vk) := h
  have HR : Hid (w.ownsRow 0 37 4 (.slice a l.length cap) l.length (ccells l)) := hr
  have HS : Hid (∀ c ∈ l, 0 ≤ c.sector ∧ c.sector < d.lasting.length) := hs
  clear h hr hs
  go_enter Try.func28, Try.ntmps28
  go_wp2
  go_loopw [8] (fun i wr => ∃ k : Nat, k ≤ l.length ∧ i = .int .i64 k ∧ Turn (fun k => vl.ownBlock = some k) w wr ∧ wr.ownsRow 0 9 1 vl (settleL d.lasting (l.take k)).length (scells (settleL d.lasting (l.take k)))) (fun i _ => l.length - (intOf i).toNat)
  case atStart => exact ⟨0, Nat.zero_le _, rfl, Turn.refl _ _, HD.out.las⟩
  case round =>
    obtain ⟨k, hk, rfl, ht, hl⟩ := hrel
    have HT : Hid (Turn (fun k => vl.ownBlock = some k) w wr) := ht
    have HL : Hid (wr.ownsRow 0 9 1 vl (settleL d.lasting (l.take k)).length (scells (settleL d.lasting (l.take k)))) := hl
    clear ht hl
    by_cases hlt : k < l.length
    · obtain ⟨g, cap', he⟩ := row_some HR.out (by omega)
      cases he
      have hRk : wr.ownsRow 0 37 4 (.slice (some ⟨g, 0, none⟩) l.length cap) l.length (ccells l) := row_turn HR.out HT.out (fun j e => rows_ne HR.out HD.out.las (by decide) j e)
      obtain ⟨e0, e1, e2, e3⟩ := row_cmd hRk k hlt
      obtain ⟨s0, s1⟩ := HS.out l[k] (List.getElem_mem hlt)
      have hll : (settleL d.lasting (l.take k)).length = d.lasting.length := settleL_length _ _
      obtain ⟨gl, capl, hvl⟩ := row_some HL.out (by omega)
      rw [hll] at hvl
      have HVL : Hid (vl.ownBlock = some gl) := by rw [hvl]; rfl
      have m1 : wr.cell? ⟨b, 1, none⟩ = some (.slice (some ⟨gl, 0, none⟩) d.lasting.length capl) := by
        have := (HT.out.block b (lt_of_heap HD.out.main) (fun e => row_ne HD.out.las HD.out.main (by decide) b e rfl)).trans HD.out.main
        rw [← hvl]
        exact cell_of_heap this 1 _ rfl
      obtain ⟨j, hj⟩ : ∃ j : Nat, l[k].sector = (j : Int) := ⟨l[k].sector.toNat, by omega⟩
      have hjl : j < (settleL d.lasting (l.take k)).length := by omega
      have x1 : ∃ u, wr.cell? ⟨gl, j, none⟩ = some (.string u) := by
        have h' := HL.out
        rw [hvl, hll] at h'
        rw [← hll] at h'
        exact ⟨_, row_str h' j hjl⟩
      obtain ⟨u, x1⟩ := x1
      have x2 : wr.frozen? ⟨gl, j, none⟩ = false := row_free HL.out gl HVL.out j
      have hgb : gl < wr.heap.size := lt_of_cell x1
      have HSET : Hid (settleL d.lasting (l.take (k + 1)) = (settleL d.lasting (l.take k)).set j l[k].data) := by
        show _ = _
        rw [List.take_succ_eq_append_getElem hlt, settleL_append]
        simp [settleL, hj]
      rw [hj] at e1
      clear hRk s0 s1 hj
      generalize l[k].kind = xk at *
      generalize l[k].data = xd at *
      generalize l[k].tag = xt at *
      generalize d.lasting.length = nl at *
      have hbb : b < wr.heap.size := lt_of_cell m1
      have n1 : (wr.alloc (Obj.cells #[.int .i64 xk, .int .i64 j, .string xd, .int .i64 xt] 37)).cell? ⟨b, 1, none⟩ = some (.slice (some ⟨gl, 0, none⟩) nl capl) := (World.cell?_of_block (Below.heap_alloc _ _ _ hbb)).trans m1
      have n2 : (wr.alloc (Obj.cells #[.int .i64 xk, .int .i64 j, .string xd, .int .i64 xt] 37)).cell? ⟨gl, j, none⟩ = some (.string u) := (World.cell?_of_block (Below.heap_alloc _ _ _ hgb)).trans x1
      have n3 : (wr.alloc (Obj.cells #[.int .i64 xk, .int .i64 j, .string xd, .int .i64 xt] 37)).frozen? ⟨gl, j, none⟩ = false := by
        have := Below.heap_alloc wr (Obj.cells #[.int .i64 xk, .int .i64 j, .string xd, .int .i64 xt] 37) gl hgb
        rw [← x2]; simp only [World.frozen?, this]
      go_wp2
      go_region
      have HNEW := ((row_set_str HL.out HVL.out j xd).alloc (Obj.cells #[.int .i64 xk, .int .i64 j, .string xd, .int .i64 xt] 37)).drew
      have HNT := ((HT.out.setCell gl j (.string xd) (.inl HVL.out)).alloc (Obj.cells #[.int .i64 xk, .int .i64 j, .string xd, .int .i64 xt] 37)).drew
      go_wp2
      go_roundw
      case rel => exact ⟨k + 1, by omega, by go_num, HNT, by rw [HSET.out]; exact HNEW⟩
      case measure => simp [intOf]; omega
    · obtain rfl : k = l.length := by omega
      rw [List.take_length] at HL
      have HE : Hid (DevIn wr (Grow S w wr) b { d with lasting := settleL d.lasting l } vl vc vw vk) := HD.out.lasts HT.out _ HL.out
      go_wp2
      go_end0
      exact ⟨⟨_, rfl⟩, HE.out, HT.out⟩

end Go.Proofs.Ytkfphmhnaelflaa.Nv
