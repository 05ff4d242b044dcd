/-
  Commands of a sector are taken out of a row. No condition.
-/
import Derived.Test.YtkfphmhnaelflaaNvDel
namespace Go.Proofs.Ytkfphmhnaelflaa.Nv
open Go.ChangeShapes Go.WideShapes Go.ChangeAt Go.RowKit Go.Proofs.Fa

variable {w : World}

/-- Those of other sectors. -/
def filt (s : Int) (l : List Cmd) : List Cmd := l.filter (fun o => !(o.sector == s))

set_option maxRecDepth 100000
set_option maxHeartbeats 4000000

theorem write1_any (o c : Cmd) (zc : Nat) (w : World) (h : w.heap[zc]? = some (.cells #[.int .i64 c.kind, .int .i64 c.sector, .string c.data, .int .i64 c.tag] 37 (0, 0))) :
    Calls Try.prog 45 #[o.agg, .pointer (some ⟨zc, 0, none⟩)] w fun e w' => e = .returned (.bool (o.sector == c.sector)) ∧ Below w.heap.size w w' := by
  have c1 : w.cell? ⟨zc, 1, none⟩ = some (.int .i64 c.sector) := cell_of_heap h 1 _ rfl
  have hz : zc < w.heap.size := lt_of_heap h
  clear h
  obtain ⟨kd, s, dt, tg⟩ := o
  rw [show Cmd.agg ⟨kd, s, dt, tg⟩ = .agg #[.int .i64 kd, .int .i64 s, .string dt, .int .i64 tg] from rfl]
  have c1' : (w.alloc (Obj.cells #[.int .i64 kd, .int .i64 s, .string dt, .int .i64 tg] 37)).cell? ⟨zc, 1, none⟩ = some (.int .i64 c.sector) := (World.cell?_of_block (Below.heap_alloc _ _ _ hz)).trans c1
  go_enter Try.func45, Try.ntmps45
  go_wp2
  go_ret
  exact ⟨rfl, (Below.refl _ _).alloc (Nat.le_refl _) _⟩

/-- What IndexFunc answers. -/
def FirstAt (s : Int) (l : List Cmd) (r : Int) : Prop := (r = -1 ∧ ∀ c ∈ l, c.sector ≠ s) ∨ ∃ (k : Nat) (hk : k < l.length), r = k ∧ l[k].sector = s ∧ (∀ j (h : j < l.length), j < k → l[j].sector ≠ s)

theorem index_any (v : Value) (l : List Cmd) (c : Cmd) (zc : Nat) (hr : w.ownsRow 0 37 4 v l.length (ccells l)) (hn : l.length ≤ 1000000)
    (hz : w.heap[zc]? = some (.cells #[.int .i64 c.kind, .int .i64 c.sector, .string c.data, .int .i64 c.tag] 37 (0, 0))) :
    Calls Try.prog 49 #[v, .func (.func 45) #[] #[.pointer (some ⟨zc, 0, none⟩)]] w fun e w' => (∃ r, e = .returned (.int .i64 r) ∧ FirstAt c.sector l r) ∧ Below w.heap.size w w' := by
  obtain ⟨a, cap, rfl, _⟩ := row_slice hr
  have HR : Hid (w.ownsRow 0 37 4 (.slice a l.length cap) l.length (ccells l)) := hr
  have HZ : Hid (w.heap[zc]? = _) := hz
  clear hr hz
  go_enter Try.func49, Try.ntmps49
  go_wp2
  go_loopw [8] (fun i wr => ∃ k : Nat, k ≤ l.length ∧ i = .int .i64 k ∧ (∀ j (h : j < l.length), j < k → l[j].sector ≠ c.sector) ∧ Below w.heap.size w wr) (fun i _ => l.length - (intOf i).toNat)
  case atStart => exact ⟨0, Nat.zero_le _, rfl, fun j _ h => absurd h (Nat.not_lt_zero _), Below.refl _ _⟩
  case round =>
    obtain ⟨k, hk, rfl, hno, hb⟩ := hrel
    have HNO : Hid (∀ j (h : j < l.length), j < k → l[j].sector ≠ c.sector) := hno
    have HB : Hid (Below w.heap.size w wr) := hb
    clear hno hb
    by_cases hlt : k < l.length
    · have hRk := row_below HR.out HB.out
      obtain ⟨g, cap', he⟩ := row_some hRk (by omega)
      cases he
      obtain ⟨e0, e1, e2, e3⟩ := row_cmd hRk k hlt
      have HZk : Hid (wr.heap[zc]? = _) := (HB.out.block _ (lt_of_heap HZ.out)).trans HZ.out
      clear hRk
      obtain ⟨cc, hck⟩ : ∃ cc, l[k] = cc := ⟨_, rfl⟩
      have HCK : Hid (l[k] = cc) := hck
      rw [hck] at e0 e1 e2 e3
      clear hck
      obtain ⟨xk, xs, xd, xt⟩ := cc
      go_wp2_with fail
      refine (write1_any ⟨xk, xs, xd, xt⟩ c zc wr HZk.out).mono ?_
      rintro e w2 ⟨rfl, hb2⟩
      have HB2 : Hid (Below w.heap.size w w2) := HB.out.trans (hb2.mono HB.out.size)
      clear hb2
      cases hs : (xs == c.sector)
      · have HNX : Hid (∀ j (h : j < l.length), j < k + 1 → l[j].sector ≠ c.sector) := by
          intro j h hj
          by_cases hjk : j < k
          · exact HNO.out j h hjk
          · obtain rfl : j = k := by omega
            rw [HCK.out]
            simpa using hs
        go_wp2
        go_roundw
        case rel => exact ⟨k + 1, by omega, by go_num, HNX.out, HB2.out⟩
        case measure => simp [intOf]; omega
      · have HSS : Hid (l[k].sector = c.sector) := by
          show _ = _
          rw [HCK.out]
          simpa using hs
        go_wp2
        go_ret
        exact ⟨⟨_, rfl, .inr ⟨k, hlt, rfl, HSS.out, HNO.out⟩⟩, HB2.out⟩
    · obtain rfl : k = l.length := by omega
      go_wp2
      go_ret
      refine ⟨⟨_, rfl, .inl ⟨rfl, fun x hx => ?_⟩⟩, HB.out⟩
      obtain ⟨j, hj, rfl⟩ := List.getElem_of_mem hx
      exact HNO.out j hj hj

end Go.Proofs.Ytkfphmhnaelflaa.Nv
