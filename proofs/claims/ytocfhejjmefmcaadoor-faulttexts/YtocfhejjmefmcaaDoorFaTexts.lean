/-
  Text and Error. No condition.
-/
import Derived.Test.YtocfhejjmefmcaaDoorFaText
namespace Go.Proofs.YtocfhejjmefmcaaDoor.Fa
open Go.ChangeShapes Go.WideShapes Go.ChangeAt Go.RowKit Go.Proofs.Fa

/-- The text of an error. -/
def textB (b : Option (Option Int)) (l : List Layer) : ByteArray := ⟨(textOf (flat l ⟨#[]⟩ b)).toArray⟩

set_option maxRecDepth 100000
set_option maxHeartbeats 2000000
theorem Text_nil (w : World) : Calls Tryd.prog 12 #[.nilIface] w fun e w' => e = .returned (.string ⟨#[]⟩) ∧ w' = w := by
  go_enter Tryd.func12, Tryd.ntmps12
  go_wp2
  go_ret
  exact ⟨rfl, rfl⟩
theorem Text_any (b : Option (Option Int)) (l : List Layer) (t : TypeId) (u : Value) (w : World) (hl : l.length ≤ 1000) (hx : ErrAt w b l (.iface t u)) (hW : WordsAt w) (hT : Tab w) :
    Calls Tryd.prog 12 #[.iface t u] w fun e w' => e = .returned (.string (textB b l)) ∧ Below w.heap.size w w' := by
  have HX : Hid (ErrAt w b l (.iface t u)) := hx
  have HW : Hid (WordsAt w) := hW
  have HT : Hid (Tab w) := hT
  clear hx hW hT
  go_enter Tryd.func12, Tryd.ntmps12
  go_wp2_with fail
  refine (text_any b l (.iface t u) w hl HX.out HW.out HT.out).mono ?_
  rintro e w1 ⟨rfl, hb⟩
  rw [show (⟨(textOf (flat l ⟨#[]⟩ b)).toArray⟩ : ByteArray) = textB b l from rfl]
  have HB : Hid (Below w.heap.size w w1) := hb
  clear hb HX HW HT
  go_wp2
  go_ret
  exact ⟨rfl, HB.out⟩
theorem Error_any (b : Option (Option Int)) (l : List Layer) (p : Option Addr) (w : World) (hl : l.length ≤ 1000) (hx : ErrAt w b l (.iface 44 (.pointer p))) (hW : WordsAt w) (hT : Tab w) :
    Calls Tryd.prog 23 #[.pointer p] w fun e w' => e = .returned (.string (textB b l)) ∧ Below w.heap.size w w' := by
  have HX : Hid (ErrAt w b l (.iface 44 (.pointer p))) := hx
  have HW : Hid (WordsAt w) := hW
  have HT : Hid (Tab w) := hT
  clear hx hW hT
  go_enter Tryd.func23, Tryd.ntmps23
  go_wp2_with fail
  refine (text_any b l _ w hl HX.out HW.out HT.out).mono ?_
  rintro e w1 ⟨rfl, hb⟩
  rw [show (⟨(textOf (flat l ⟨#[]⟩ b)).toArray⟩ : ByteArray) = textB b l from rfl]
  have HB : Hid (Below w.heap.size w w1) := hb
  clear hb HX HW HT
  go_wp2
  go_ret
  exact ⟨rfl, HB.out⟩
theorem Find_nil (w : World) : Calls Tryd.prog 19 #[.nilIface] w fun e w' => e = .returned (.tuple #[.agg #[.string ⟨#[]⟩, .int .i64 0, .nilIface], .bool false]) ∧ Below w.heap.size w w' := by
  go_enter Tryd.func19, Tryd.ntmps19
  go_wp2
  refine wp_loop_rounds 1 ?_
  rw [rounds_succ]
  go_wp2
  refine bodyPost_ret (v := .tuple #[.agg #[.string ⟨#[]⟩, .int .i64 0, .nilIface], .bool false]) (by simp [results, Tryd.f19, go_sem]) rfl ?_
  exact ⟨rfl, ((Below.refl _ w).alloc (Nat.le_refl _) _).alloc (by simp) _⟩

end Go.Proofs.YtocfhejjmefmcaaDoor.Fa
