/-
  An inode's size; the sector of a block; the block of a sector. Condition: extents that lie below 2048.
-/
import Derived.Test.YtkfphmhnaelflacGreatDoorIdNext
namespace Go.Proofs.YtkfphmhnaelflacGreatDoor.Id
open Go.ChangeShapes Go.WideShapes Go.ChangeAt Go.RowKit Go.Proofs.Fa

variable {w : World} {B : Nat}
set_option maxRecDepth 100000
set_option maxHeartbeats 1000000

theorem sizeF_drop (l : List Ext) (k : Nat) (hk : k < l.length) : sizeF (l.drop k) = l[k].len + sizeF (l.drop (k + 1)) := by rw [List.drop_eq_getElem_cons hk]; rfl

theorem size_any (ver : Int) (v : Value) (l : List Ext) (hr : Row w B v l) (hn : l.length ≤ 1000) (hl : OkL l) :
    Calls Tryz.prog 19 #[ino ver v] w fun r w' => r = .returned (.int .i64 (sizeF l)) ∧ Below w.heap.size w w' := by
  obtain ⟨a, cap, rfl, _⟩ := row_slice hr
  have HR : Hid (Row w B (.slice a l.length cap) l) := hr
  have HL : Hid (OkL l) := hl
  clear hr hl
  simp only [ino]
  go_enter Tryz.func19, Tryz.ntmps19
  go_wp2
  go_loopw [3, 9] (fun n i wr => ∃ (k : Nat) (x : Int), k ≤ l.length ∧ i = .int .i64 k ∧ n = .int .i64 x ∧ x + sizeF (l.drop k) = sizeF l ∧ Below w.heap.size w wr) (fun _ i _ => l.length - (intOf i).toNat)
  case atStart => exact ⟨0, 0, Nat.zero_le _, rfl, rfl, by simp, (Below.refl _ _).alloc (Nat.le_refl _) _⟩
  case round =>
    obtain ⟨k, x, hk, rfl, rfl, hsum, hb⟩ := hrel
    have HB : Hid (Below w.heap.size w wr) := hb
    clear hb
    by_cases hlt : k < l.length
    · have hRk : Row wr B _ l := row_below HR.out HB.out (Nat.le_refl _)
      obtain ⟨g, cap', he⟩ := row_some hRk (by omega)
      cases he
      obtain ⟨e0, e1⟩ := hRk.ext k hlt
      clear hRk
      have HS : Hid (x + l[k].len + sizeF (l.drop (k + 1)) = sizeF l) := by show _ = _; rw [sizeF_drop l k hlt] at hsum; omega
      have h1 := sizeF_nonneg (HL.out.drop (k + 1))
      have h2 := sizeF_nonneg (HL.out.drop k)
      have h3 := sizeF_le HL.out
      have h5 := sizeF_nonneg HL.out
      have h4 := HL.out.at k hlt
      unfold Ok at h4
      have hx : -5000000 ≤ x ∧ x ≤ 5000000 := by have := sizeF_le (HL.out.drop k); rw [List.length_drop] at this; omega
      have hx' : 0 ≤ l[k].len ∧ l[k].len ≤ 2048 := by omega
      clear h1 h2 h3 h4 h5 hsum
      generalize l[k] = y at *
      obtain ⟨yp, yl⟩ := y
      dsimp only at *
      go_wp2
      go_roundw
      case rel => exact ⟨k + 1, x + yl, by omega, by go_num, by go_num, HS.out, HB.out.alloc HB.out.size _⟩
      case measure => simp [intOf]; omega
    · obtain rfl : k = l.length := by omega
      have HS : Hid (x = sizeF l) := by show _ = _; rw [List.drop_length] at hsum; simp only [sizeF] at hsum; omega
      clear hsum
      go_wp2
      go_ret
      exact ⟨by rw [← HS.out]; rfl, HB.out⟩

/-- A number, or none. -/
def optV (o : Option Int) : Value := .tuple #[.int .i64 (o.getD 0), .bool o.isSome]
def mapG (l : List Ext) (b : Int) : Option Int := if b < 0 then none else mapF l b

theorem map_any (ver : Int) (v : Value) (l : List Ext) (b : Int) (hr : Row w B v l) (hn : l.length ≤ 1000) (hl : OkL l) (hb : -9223372036854775808 ≤ b ∧ b ≤ 9223372036854775807) :
    Calls Tryz.prog 17 #[ino ver v, .int .i64 b] w fun r w' => r = .returned (optV (mapG l b)) ∧ Below w.heap.size w w' := by
  obtain ⟨a, cap, rfl, _⟩ := row_slice hr
  have HR : Hid (Row w B (.slice a l.length cap) l) := hr
  have HL : Hid (OkL l) := hl
  clear hr hl
  simp only [ino]
  by_cases h0 : b < 0
  · have HM : Hid (mapG l b = none) := by show _ = _; unfold mapG; rw [if_pos h0]
    go_enter Tryz.func17, Tryz.ntmps17
    go_wp2
    go_ret2
    exact ⟨by rw [HM.out]; rfl, (Below.refl _ _).alloc (Nat.le_refl _) _⟩
  · have HM : Hid (mapG l b = mapF l b) := by show _ = _; unfold mapG; rw [if_neg h0]
    go_enter Tryz.func17, Tryz.ntmps17
    go_wp2
    go_loopw [1, 13] (fun n i wr => ∃ (k : Nat) (x : Int), k ≤ l.length ∧ i = .int .i64 k ∧ n = .int .i64 x ∧ 0 ≤ x ∧ x ≤ 9223372036854775807 ∧ mapF (l.drop k) x = mapF l b ∧ Below w.heap.size w wr) (fun _ i _ => l.length - (intOf i).toNat)
    case atStart => exact ⟨0, b, Nat.zero_le _, rfl, rfl, by omega, by omega, by simp, (Below.refl _ _).alloc (Nat.le_refl _) _⟩
    case round =>
      obtain ⟨k, x, hk, rfl, rfl, hx0, hx1, hmap, hbw⟩ := hrel
      have HB : Hid (Below w.heap.size w wr) := hbw
      clear hbw
      by_cases hlt : k < l.length
      · have hRk : Row wr B _ l := row_below HR.out HB.out (Nat.le_refl _)
        obtain ⟨g, cap', he⟩ := row_some hRk (by omega)
        cases he
        obtain ⟨e0, e1⟩ := hRk.ext k hlt
        clear hRk
        rw [List.drop_eq_getElem_cons hlt] at hmap
        simp only [mapF] at hmap
        have h4 := HL.out.at k hlt
        unfold Ok at h4
        by_cases hc : x < l[k].len
        · rw [if_pos hc] at hmap
          have HF : Hid (some (l[k].pos + x) = mapF l b) := hmap
          clear hmap
          generalize l[k] = y at *
          obtain ⟨yp, yl⟩ := y
          dsimp only at *
          go_wp2
          go_ret2
          refine ⟨?_, HB.out.alloc HB.out.size _⟩
          rw [HM.out, ← HF.out]
          rfl
        · rw [if_neg hc] at hmap
          have HF : Hid (mapF (l.drop (k + 1)) (x - l[k].len) = mapF l b) := hmap
          clear hmap
          generalize l[k] = y at *
          obtain ⟨yp, yl⟩ := y
          dsimp only at *
          go_wp2
          go_roundw
          case rel => exact ⟨k + 1, x - yl, by omega, by go_num, by go_num, by omega, by omega, HF.out, HB.out.alloc HB.out.size _⟩
          case measure => simp [intOf]; omega
      · obtain rfl : k = l.length := by omega
        have HF : Hid (none = mapF l b) := by show _ = _; rw [List.drop_length] at hmap; exact hmap
        clear hmap
        go_wp2
        go_ret2
        exact ⟨by rw [HM.out, ← HF.out]; rfl, HB.out⟩

/-- The block of a sector. -/
def blockF : List Ext → Int → Int → Option Int
  | [], _, _ => none
  | e :: r, s, a => if e.pos ≤ s ∧ s < e.pos + e.len then some (a + s - e.pos) else blockF r s (a + e.len)

theorem block_any (ver : Int) (v : Value) (l : List Ext) (b : Int) (hr : Row w B v l) (hn : l.length ≤ 1000) (hl : OkL l) (hb : -9223372036854775808 ≤ b ∧ b ≤ 9223372036854775807) :
    Calls Tryz.prog 18 #[ino ver v, .int .i64 b] w fun r w' => r = .returned (optV (blockF l b 0)) ∧ Below w.heap.size w w' := by
  obtain ⟨a, cap, rfl, _⟩ := row_slice hr
  have HR : Hid (Row w B (.slice a l.length cap) l) := hr
  have HL : Hid (OkL l) := hl
  clear hr hl
  simp only [ino]
  go_enter Tryz.func18, Tryz.ntmps18
  go_wp2
  go_loopw [6, 12] (fun n i wr => ∃ (k : Nat) (x : Int), k ≤ l.length ∧ i = .int .i64 k ∧ n = .int .i64 x ∧ 0 ≤ x ∧ x ≤ 2048 * k ∧ blockF (l.drop k) b x = blockF l b 0 ∧ Below w.heap.size w wr) (fun _ i _ => l.length - (intOf i).toNat)
  case atStart => exact ⟨0, 0, Nat.zero_le _, rfl, rfl, by omega, by omega, by simp, (Below.refl _ _).alloc (Nat.le_refl _) _⟩
  case round =>
    obtain ⟨k, x, hk, rfl, rfl, hx0, hx1, hmap, hbw⟩ := hrel
    have HB : Hid (Below w.heap.size w wr) := hbw
    clear hbw
    by_cases hlt : k < l.length
    · have hRk : Row wr B _ l := row_below HR.out HB.out (Nat.le_refl _)
      obtain ⟨g, cap', he⟩ := row_some hRk (by omega)
      cases he
      obtain ⟨e0, e1⟩ := hRk.ext k hlt
      clear hRk
      rw [List.drop_eq_getElem_cons hlt] at hmap
      simp only [blockF] at hmap
      have h4 := HL.out.at k hlt
      have hsm := h4.small
      unfold Ok at h4
      by_cases hc1 : l[k].pos ≤ b
      · have hend := end_any l[k] (wr.alloc (Obj.cells #[.int .i64 l[k].pos, .int .i64 l[k].len] 51)) hsm
        have HX := heap_alloc_new wr (Obj.cells #[.int .i64 l[k].pos, .int .i64 l[k].len] 51)
        clear hsm
        by_cases hc2 : b < l[k].pos + l[k].len
        · rw [if_pos ⟨hc1, hc2⟩] at hmap
          have HF : Hid (some (x + b - l[k].pos) = blockF l b 0) := hmap
          clear hmap
          generalize l[k] = y at *
          obtain ⟨yp, yl⟩ := y
          simp only [Ext.agg] at *
          have HX' : Hid (_ = _) := HX
          clear HX
          go_wp2_with fail
          refine hend.mono ?_
          rintro r w1 ⟨rfl, hw1⟩
          clear hend
          have hb1 : Below (wr.alloc (Obj.cells #[.int .i64 yp, .int .i64 yl] 51)).heap.size (wr.alloc (Obj.cells #[.int .i64 yp, .int .i64 yl] 51)) w1 := by rw [hw1]; exact (Below.refl _ _).alloc (Nat.le_refl _) _
          have hx := (hb1.block _ (lt_of_heap HX'.out)).trans HX'.out
          have HB1 : Hid (Below w.heap.size w w1) := (HB.out.alloc HB.out.size _).trans (hb1.mono (HB.out.alloc HB.out.size _).size)
          obtain ⟨x0, x1, _⟩ := agg2 hx
          clear hx hb1 hw1 HX'
          go_wp2
          go_ret2
          refine ⟨?_, HB1.out⟩
          rw [← HF.out]
          rfl
        · rw [if_neg (fun h => hc2 h.2)] at hmap
          have HF : Hid (blockF (l.drop (k + 1)) b (x + l[k].len) = blockF l b 0) := hmap
          clear hmap
          generalize l[k] = y at *
          obtain ⟨yp, yl⟩ := y
          simp only [Ext.agg] at *
          have HX' : Hid (_ = _) := HX
          clear HX
          go_wp2_with fail
          refine hend.mono ?_
          rintro r w1 ⟨rfl, hw1⟩
          clear hend
          have hb1 : Below (wr.alloc (Obj.cells #[.int .i64 yp, .int .i64 yl] 51)).heap.size (wr.alloc (Obj.cells #[.int .i64 yp, .int .i64 yl] 51)) w1 := by rw [hw1]; exact (Below.refl _ _).alloc (Nat.le_refl _) _
          have hx := (hb1.block _ (lt_of_heap HX'.out)).trans HX'.out
          have HB1 : Hid (Below w.heap.size w w1) := (HB.out.alloc HB.out.size _).trans (hb1.mono (HB.out.alloc HB.out.size _).size)
          obtain ⟨x0, x1, _⟩ := agg2 hx
          clear hx hb1 hw1 HX'
          go_wp2
          go_roundw
          case rel => exact ⟨k + 1, x + yl, by omega, by go_num, by go_num, by omega, by omega, HF.out, HB1.out⟩
          case measure => simp [intOf]; omega
      · rw [if_neg (fun h => hc1 h.1)] at hmap
        have HF : Hid (blockF (l.drop (k + 1)) b (x + l[k].len) = blockF l b 0) := hmap
        clear hmap hsm
        generalize l[k] = y at *
        obtain ⟨yp, yl⟩ := y
        dsimp only at *
        go_wp2
        go_roundw
        case rel => exact ⟨k + 1, x + yl, by omega, by go_num, by go_num, by omega, by omega, HF.out, HB.out.alloc HB.out.size _⟩
        case measure => simp [intOf]; omega
    · obtain rfl : k = l.length := by omega
      have HF : Hid (none = blockF l b 0) := by show _ = _; rw [List.drop_length] at hmap; exact hmap
      clear hmap
      go_wp2
      go_ret2
      exact ⟨by rw [← HF.out]; rfl, HB.out⟩

end Go.Proofs.YtkfphmhnaelflacGreatDoor.Id
