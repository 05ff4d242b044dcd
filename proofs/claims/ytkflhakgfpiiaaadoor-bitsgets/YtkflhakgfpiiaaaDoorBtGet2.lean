/-
  The set of a sector. Condition: the table of four steps holds what its initialiser lays.
-/
import Derived.Test.YtkflhakgfpiiaaaDoorBtGet
namespace Go.Proofs.YtkflhakgfpiiaaaDoor.Bt
open Go.ChangeShapes Go.WideShapes Go.ChangeAt Go.RowKit Go.Proofs.Fa
open Go.Proofs.YtkflhakgfpiiaaaDoor.Mk (NibAt openF openM_any)

variable {w : World}
set_option maxRecDepth 100000
set_option maxHeartbeats 1000000

theorem infoU8s : (Tryd.prog.info? 5).map (·.size) = some 1 := by kernel_rfl

theorem get_arg (s : ByteArray) (n : Int) (h : (decide (1 ≤ n) && decide (n ≤ 4000)) = false) :
    Calls Tryd.prog 19 #[.string s, .int .i64 n] w fun r w' => r = .returned (.tuple #[.pointer none, errV 1]) ∧ w' = w := by
  have hN := new_no n w h
  go_enter Tryd.func19, Tryd.ntmps19
  go_wp2_with fail
  refine hN.mono ?_
  rintro r w1 ⟨rfl, rfl⟩
  clear hN h
  rw [show errV 1 = .iface 57 (.int .i64 1) from rfl]
  go_wp2
  go_ret2
  exact ⟨rfl, rfl⟩

theorem get_open (s : ByteArray) (n : Nat) (e : Int) (hn : NibAt w) (h : (decide (1 ≤ (n : Int)) && decide ((n : Int) ≤ 4000)) = true) (ho : (openF 5 s).2 = e) (he : e ≠ 0) :
    Calls Tryd.prog 19 #[.string s, .int .i64 n] w fun r w' => r = .returned (.tuple #[.pointer none, errV e]) ∧ Below w.heap.size w w' := by
  have hN := new_yes n w h
  have HN : Hid (NibAt w) := hn
  clear h hn
  go_enter Tryd.func19, Tryd.ntmps19
  go_wp2_with fail
  refine hN.mono ?_
  rintro r w1 ⟨rfl, c, hc, hw1⟩
  clear hN hc
  have HB1 : Hid (Below w.heap.size w w1) := by rw [hw1]; exact (Below.refl _ _).alloc (Nat.le_refl _) _
  clear hw1
  have hO := openM_any 5 s w1 (HN.out.below HB1.out)
  rw [ho, show Mk.errV e = .iface 57 (.int .i64 e) from if_neg he] at hO
  generalize (openF 5 s).1 = bd at *
  clear ho
  go_wp2_with fail
  refine hO.mono ?_
  rintro r w2 ⟨rfl, hb2⟩
  have HB2 : Hid (Below w.heap.size w w2) := HB1.out.trans (hb2.mono HB1.out.size)
  clear hO hb2
  have HE : Hid (errV e = .iface 57 (.int .i64 e)) := if_neg he
  clear he
  go_wp2
  go_ret2
  exact ⟨by rw [HE.out]; rfl, HB2.out⟩

/-- What Get answers of a sound sector. -/
def GetAt (n : Nat) (B : Nat → Nat) (w : World) (r : Ending) (w' : World) : Prop :=
  (beyB B n = true → r = .returned (.tuple #[.pointer none, errV 4])) ∧ (beyB B n = false → ∃ b, r = .returned (.tuple #[.pointer (some ⟨b, 0, none⟩), .nilIface]) ∧ SetAt w' b n B) ∧ Below w.heap.size w w'

theorem get_yes (s body : ByteArray) (n : Nat) (hn : NibAt w) (h : (decide (1 ≤ (n : Int)) && decide ((n : Int) ≤ 4000)) = true) (ho : openF 5 s = (body, 0)) (hbs : body.size = 504) :
    Calls Tryd.prog 19 #[.string s, .int .i64 n] w fun r w' => GetAt n (strB body) w r w' := by
  have hN := new_yes n w h
  have HN : Hid (NibAt w) := hn
  clear h hn
  go_enter Tryd.func19, Tryd.ntmps19
  go_wp2_with fail
  refine hN.mono ?_
  rintro r w1 ⟨rfl, c, hc, hw1⟩
  clear hN
  have HB1 : Hid (Below w.heap.size w w1) := by rw [hw1]; exact (Below.refl _ _).alloc (Nat.le_refl _) _
  have HG1 : Hid (w1.heap[w.heap.size]? = some (.cells c 60 (0, 0))) := by rw [hw1]; exact heap_alloc_new _ _
  clear hw1
  have hO := openM_any 5 s w1 (HN.out.below HB1.out)
  rw [ho, show Mk.errV ((body, (0 : Int)) : ByteArray × Int).2 = .nilIface from rfl] at hO
  dsimp only at hO
  clear ho
  go_wp2_with fail
  refine hO.mono ?_
  rintro r w2 ⟨rfl, hb2⟩
  have HB2 : Hid (Below w.heap.size w w2) := HB1.out.trans (hb2.mono HB1.out.size)
  have hG2 : w2.heap[w.heap.size]? = some (.cells c 60 (0, 0)) := (hb2.block _ (lt_of_heap HG1.out)).trans HG1.out
  have hcp := run_copy_str w2 68 9 3 5 w.heap.size 1 504 body c 60 Tryd.underlying68 infoU8s hG2 (by rw [hbs, hc.size]; decide)
  rw [hbs] at hcp
  have HC3 := copied_ok hc body hbs
  generalize (c.toList.take 1 ++ strC body ++ c.toList.drop (1 + (strC body).length)).toArray = c3 at *
  have HS3 : Hid (SetAt (w2.setRow w.heap.size c3) w.heap.size n (strB body)) := ⟨c3, setRow_heap _ _ _ _ _ _ hG2, HC3⟩
  clear hO hb2 HC3 hG2 HG1 hc
  go_wp2_with fail
  have hB3 : Below w.heap.size w (w2.setRow w.heap.size c3) := HB2.out.trans ⟨rfl, rfl, rfl, by simp, fun k hk => setRow_other w2 w.heap.size k c3 (by omega)⟩
  have HB3 : Hid (Below w.heap.size w (w2.setRow w.heap.size c3)) := hB3
  clear hB3 hcp HB2
  generalize w2.setRow w.heap.size c3 = w3 at *
  have hY := beyond_any (w := w3) w.heap.size n (strB body) HS3.out
  cases hbey : beyB (strB body) n
  · rw [hbey] at hY
    refine hY.mono ?_
    rintro r w4 ⟨rfl, hb4⟩
    have HB4 : Hid (Below w.heap.size w w4) := HB3.out.trans (hb4.mono HB3.out.size)
    have HS4 : Hid (SetAt w4 w.heap.size n (strB body)) := HS3.out.below hb4 (Nat.le_refl _)
    have HBE : Hid (beyB (strB body) n = false) := hbey
    clear hbey hY hb4
    go_wp2
    go_ret2
    exact ⟨fun h => absurd (HBE.out.symm.trans h) (by decide), fun _ => ⟨_, rfl, HS4.out⟩, HB4.out⟩
  · rw [hbey] at hY
    refine hY.mono ?_
    rintro r w4 ⟨rfl, hb4⟩
    have HB4 : Hid (Below w.heap.size w w4) := HB3.out.trans (hb4.mono HB3.out.size)
    have HBE : Hid (beyB (strB body) n = true) := hbey
    clear hbey hY hb4
    go_wp2
    go_ret2
    exact ⟨fun _ => rfl, fun h => absurd (HBE.out.symm.trans h) (by decide), HB4.out⟩

end Go.Proofs.YtkflhakgfpiiaaaDoor.Bt
