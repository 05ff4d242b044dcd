/-
  Does an extent meet one of a row? May it become one of the row's? No condition.
-/
import Derived.Test.YtkfphmhnaelflacGreatDoorIdMeet
namespace Go.Proofs.YtkfphmhnaelflacGreatDoor.Id
open Go.ChangeShapes Go.WideShapes Go.ChangeAt Go.RowKit

variable {w : World} {B : Nat}
set_option maxRecDepth 100000
set_option maxHeartbeats 1000000

theorem Ok.small {e : Ext} (h : Ok e) : 0 ≤ e.pos ∧ e.pos ≤ 4096 ∧ 0 ≤ e.len ∧ e.len ≤ 4096 := by unfold Ok at h; omega

theorem index_any (v : Value) (l : List Ext) (e : Ext) (hr : Row w B v l) (hn : l.length ≤ 1000000) (hl : OkL l) (he : Ok e) :
    Calls Tryz.prog 44 #[v, .func (.func 27) #[e.agg] #[]] w fun r w' => (∃ k, r = .returned (.int .i64 k) ∧ decide (0 ≤ k) = l.any (meetsF e)) ∧ Below w.heap.size w w' := by
  obtain ⟨a, cap, rfl, _⟩ := row_slice hr
  have HR : Hid (Row w B (.slice a l.length cap) l) := hr
  have HE : Hid (Ok e) := he
  have HL : Hid (OkL l) := hl
  clear hr he hl
  go_enter Tryz.func44, Tryz.ntmps44
  go_wp2
  go_loopw [8] (fun i wr => ∃ k : Nat, k ≤ l.length ∧ i = .int .i64 k ∧ (l.take k).any (meetsF e) = false ∧ Below w.heap.size w wr) (fun i _ => l.length - (intOf i).toNat)
  case atStart => exact ⟨0, Nat.zero_le _, rfl, by simp, Below.refl _ _⟩
  case round =>
    obtain ⟨k, hk, rfl, hno, hb⟩ := hrel
    have HNO : Hid ((l.take k).any (meetsF e) = false) := hno
    have HB : Hid (Below w.heap.size w wr) := hb
    clear hno hb
    by_cases hlt : k < l.length
    · have hRk : Row wr B _ l := row_below HR.out HB.out (Nat.le_refl _)
      obtain ⟨g, cap', he⟩ := row_some hRk (by omega)
      cases he
      obtain ⟨e0, e1⟩ := hRk.ext k hlt
      clear hRk
      have HM := meets_any e l[k] wr HE.out.small (HL.out.at k hlt).small
      have HST : Hid ((l.take (k + 1)).any (meetsF e) = meetsF e l[k]) := by
        show _ = _
        rw [List.take_succ_eq_append_getElem hlt, List.any_append, HNO.out]
        simp
      have HALL : Hid (meetsF e l[k] = true → l.any (meetsF e) = true) := fun h => List.any_eq_true.2 ⟨l[k], List.getElem_mem hlt, h⟩
      generalize l[k] = x at *
      obtain ⟨xp, xl⟩ := x
      simp only [Ext.agg] at HM
      go_wp2_with fail
      refine HM.mono ?_
      rintro r w2 ⟨rfl, hb2⟩
      have HB2 : Hid (Below w.heap.size w w2) := HB.out.trans (hb2.mono HB.out.size)
      clear hb2 HM
      cases hs : meetsF e ⟨xp, xl⟩
      · rw [hs] at HST
        clear HALL
        go_wp2
        go_roundw
        case rel => exact ⟨k + 1, by omega, by go_num, HST.out, HB2.out⟩
        case measure => simp [intOf]; omega
      · have HA : Hid (l.any (meetsF e) = true) := HALL.out hs
        clear HALL
        go_wp2
        go_ret
        exact ⟨⟨_, rfl, by rw [HA.out]; simp⟩, HB2.out⟩
    · obtain rfl : k = l.length := by omega
      rw [List.take_length] at HNO
      go_wp2
      go_ret
      exact ⟨⟨_, rfl, by rw [HNO.out]; rfl⟩, HB.out⟩

theorem contains_any (v : Value) (l : List Ext) (e : Ext) (hr : Row w B v l) (hn : l.length ≤ 1000000) (hl : OkL l) (he : Ok e) :
    Calls Tryz.prog 26 #[v, .func (.func 27) #[e.agg] #[]] w fun r w' => r = .returned (.bool (l.any (meetsF e))) ∧ Below w.heap.size w w' := by
  have HI := index_any v l e hr hn hl he
  obtain ⟨a, cap, rfl, _⟩ := row_slice hr
  clear hr hl he
  obtain ⟨p, q⟩ := e
  simp only [Ext.agg] at HI ⊢
  go_enter Tryz.func26, Tryz.ntmps26
  go_wp2_with fail
  refine HI.mono ?_
  rintro r w1 ⟨⟨k, rfl, hk⟩, hb⟩
  clear HI
  have HK : Hid (decide (0 ≤ k) = l.any (meetsF ⟨p, q⟩)) := hk
  have HB : Hid (Below w.heap.size w w1) := hb
  clear hk hb
  go_wp2
  go_ret
  exact ⟨by rw [← HK.out]; rfl, HB.out⟩

/-- An inode's value. -/
def ino (ver : Int) (v : Value) : Value := .agg #[.int .i64 ver, v]

theorem mayHave_any (ver : Int) (v : Value) (l : List Ext) (e : Ext) (hr : Row w B v l) (hn : l.length ≤ 1000000) (hl : OkL l) (he : -9223372036854775808 ≤ e.pos ∧ e.pos ≤ 9223372036854775807) :
    Calls Tryz.prog 33 #[ino ver v, e.agg] w fun r w' => r = .returned (.bool (mayF l e)) ∧ Below w.heap.size w w' := by
  obtain ⟨a, cap, rfl, _⟩ := row_slice hr
  have HR : Hid (Row w B (.slice a l.length cap) l) := hr
  have HL : Hid (OkL l) := hl
  have hbel := below_any e 2048
  have hcon := fun w hr (he : Ok e) => contains_any (w := w) (B := B) (.slice a l.length cap) l e hr hn HL.out he
  have hmay : mayF l e = (belowF e 2048 && !(l.any (meetsF e))) := rfl
  have hok := belowF_ok e
  clear hr hl
  obtain ⟨p, q⟩ := e
  simp only [Ext.agg, ino] at *
  have HZ : ((w.alloc (Obj.cells #[.int .i64 ver, .slice a l.length cap] 26)).alloc (Obj.cells #[.int .i64 p, .int .i64 q] 51)).heap[w.heap.size]? = some (.cells #[.int .i64 ver, .slice a l.length cap] 26 (0, 0)) := (Below.heap_alloc _ _ _ (by simp)).trans (heap_alloc_new w _)
  have HY : ((w.alloc (Obj.cells #[.int .i64 ver, .slice a l.length cap] 26)).alloc (Obj.cells #[.int .i64 p, .int .i64 q] 51)).heap[w.heap.size + 1]? = some (.cells #[.int .i64 p, .int .i64 q] 51 (0, 0)) := by
    have := heap_alloc_new (w.alloc (Obj.cells #[.int .i64 ver, .slice a l.length cap] 26)) (Obj.cells #[.int .i64 p, .int .i64 q] 51)
    rw [World.size_alloc] at this
    exact this
  have HB0 : Hid (Below w.heap.size w ((w.alloc (Obj.cells #[.int .i64 ver, .slice a l.length cap] 26)).alloc (Obj.cells #[.int .i64 p, .int .i64 q] 51))) := ((Below.refl _ _).alloc (Nat.le_refl _) _).alloc (by simp) _
  have HBE := hbel ((w.alloc (Obj.cells #[.int .i64 ver, .slice a l.length cap] 26)).alloc (Obj.cells #[.int .i64 p, .int .i64 q] 51)) he (by decide)
  have HZ' : Hid (_ = _) := HZ
  have HY' : Hid (_ = _) := HY
  clear hbel HZ HY
  go_enter Tryz.func33, Tryz.ntmps33
  go_wp2_with fail
  refine HBE.mono ?_
  rintro r w1 ⟨rfl, hb1⟩
  clear HBE
  have hz := (hb1.block _ (lt_of_heap HZ'.out)).trans HZ'.out
  have hy := (hb1.block _ (lt_of_heap HY'.out)).trans HY'.out
  have HB1 : Hid (Below w.heap.size w w1) := HB0.out.trans (hb1.mono HB0.out.size)
  clear hb1 HZ' HY'
  have z1 : w1.cell? ⟨w.heap.size, 1, none⟩ = some (.slice a l.length cap) := cell_of_heap hz 1 _ rfl
  have y0 : w1.cell? ⟨w.heap.size + 1, 0, none⟩ = some (.int .i64 p) := cell_of_heap hy 0 _ rfl
  have y1 : w1.cell? ⟨w.heap.size + 1, 1, none⟩ = some (.int .i64 q) := cell_of_heap hy 1 _ rfl
  clear hz hy
  cases hB : belowF ⟨p, q⟩ 2048
  · have HM : Hid (mayF l ⟨p, q⟩ = false) := by show _ = _; rw [hmay, hB]; rfl
    clear hcon hok hmay
    go_wp2
    go_ret
    exact ⟨by rw [HM.out]; rfl, HB1.out⟩
  · have HM : Hid (mayF l ⟨p, q⟩ = !(l.any (meetsF ⟨p, q⟩))) := by show _ = _; rw [hmay, hB]; rfl
    have HC := hcon w1 (row_below HR.out HB1.out (Nat.le_refl _)) (hok.1 hB)
    clear hcon hok hmay
    go_wp2_with fail
    refine HC.mono ?_
    rintro r w2 ⟨rfl, hb2⟩
    have HB2 : Hid (Below w.heap.size w w2) := HB1.out.trans (hb2.mono HB1.out.size)
    clear HC hb2
    go_wp2
    go_ret
    exact ⟨by rw [HM.out]; rfl, HB2.out⟩

end Go.Proofs.YtkfphmhnaelflacGreatDoor.Id
