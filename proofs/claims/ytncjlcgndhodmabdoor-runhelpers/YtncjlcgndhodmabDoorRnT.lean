/-
  Layer 20's steps, of programs of registers, helpers and Exit: what a step makes of a machine. Condition: the page is short.
-/
import Derived.Test.YtncjlcgndhodmabDoorRnS
import Derived.Test.YtncjlcgndhodmabDoorRnB
namespace Go.Proofs.YtncjlcgndhodmabDoor.Rn
open Go.ChangeShapes Go.WideShapes Go.ChangeAt Go.RowKit
open Go.Proofs.YtncjlcgndhodmabDoor.Cd
open Go.Proofs.YtncjlcgndhodmabDoor.Sn

set_option maxRecDepth 100000
set_option maxHeartbeats 1000000

/-- Programs of registers, helpers and Exit. -/
def Few (l : List In4) : Prop := ∀ x ∈ l, RightP x ∧ (x.op ≤ 6 ∨ x.op = 19 ∨ x.op = 20)
/-- A step: was it done, and the machine then. -/
def stepR (l : List In4) (m : Mach) : Bool × Mach :=
  match l[m.at'.toNat]? with
  | none => (false, m)
  | some x =>
    if x.op = 19 then helpF x.imm { m with at' := m.at' + 1 }
    else if x.op = 20 then (true, { m with at' := m.at' + 1, ended := true, code := m.r 0 })
    else (true, Mach.put { m with at' := m.at' + 1 } x.d.toNat (reckF x.op (m.r x.d.toNat) (m.r x.s.toNat) x.imm))
/-- What stays so. -/
structure Inv (l : List In4) (page key : ByteArray) (m : Mach) : Prop where
  page : m.page = page
  key : m.key = key
  okr : Okr m
  at' : ∃ k : Nat, m.at' = k ∧ k ≤ l.length

theorem reckF_ok {op d s im : Int} (hd : -1099511627776 ≤ d ∧ d ≤ 1099511627776) (hs : -1099511627776 ≤ s ∧ s ≤ 1099511627776) (hi : -2147483648 ≤ im ∧ im ≤ 2147483647) : -1099511627776 ≤ reckF op d s im ∧ reckF op d s im ≤ 1099511627776 := by
  unfold reckF
  split
  · exact hs
  · split
    · exact ⟨capF_lo _, capF_hi _⟩
    · split
      · exact ⟨capF_lo _, capF_hi _⟩
      · split
        · exact ⟨capF_lo _, capF_hi _⟩
        · split
          · exact ⟨capF_lo _, capF_hi _⟩
          · split
            · unfold nearF
              split
              · omega
              · split <;> omega
            · omega
theorem compare_ok : ∀ (a b : List UInt8), -1 ≤ Lib.compareBytes a b ∧ Lib.compareBytes a b ≤ 1
  | [], [] => by decide
  | [], _ :: _ => by unfold Lib.compareBytes; decide
  | _ :: _, [] => by unfold Lib.compareBytes; decide
  | a :: l, b :: k => by
    unfold Lib.compareBytes
    split
    · decide
    · split
      · decide
      · exact compare_ok l k
theorem put_ok {m : Mach} (h : Okr m) (d : Nat) (v : Int) (hv : -1099511627776 ≤ v ∧ v ≤ 1099511627776) : Okr (m.put d v) := by
  intro i hi
  show -1099511627776 ≤ (if i = d then v else m.r i) ∧ (if i = d then v else m.r i) ≤ 1099511627776
  split
  · exact hv
  · exact h i hi
theorem help_inv {l : List In4} {page key : ByteArray} {m : Mach} (k : Int) (h : Inv l page key m) : Inv l page key (helpF k m).2 := by
  unfold helpF
  split
  · exact ⟨h.page, h.key, h.okr, h.at'⟩
  · split
    · exact h
    · split
      · refine ⟨h.page, h.key, put_ok h.okr 0 _ ?_, h.at'⟩
        have := compare_ok m.key.data.toList (bytesF m).data.toList
        omega
      · exact ⟨h.page, h.key, h.okr, h.at'⟩

theorem stepR_inv {l : List In4} {page key : ByteArray} {m : Mach} (hf : Few l) (h : Inv l page key m) : Inv l page key (stepR l m).2 := by
  obtain ⟨k, hk, hkl⟩ := h.at'
  have hkn : m.at'.toNat = k := by omega
  unfold stepR
  rw [hkn]
  by_cases hl : k < l.length
  · rw [List.getElem?_eq_getElem hl]
    have hr := (hf _ (List.getElem_mem hl)).1
    have h1 : Inv l page key { m with at' := m.at' + 1 } := ⟨h.page, h.key, h.okr, k + 1, by show m.at' + 1 = _; omega, hl⟩
    dsimp only
    split
    · exact help_inv _ h1
    · split
      · exact ⟨h1.page, h1.key, h1.okr, h1.at'⟩
      · exact ⟨h1.page, h1.key, put_ok h1.okr _ _ (reckF_ok (h.okr _ (by have := hr.2.1; omega)) (h.okr _ (by have := hr.2.2.1; omega)) hr.imm), h1.at'⟩
  · rw [List.getElem?_eq_none (by omega)]
    exact h

theorem step_all {w : World} {b sb : Nat} {pv ev lv : Value} {m : Mach} (h : MAt w b pv ev sb lv m) (l : List In4) (hp : InsAt w pv l) (page key : ByteArray) (hv : Inv l page key m) (hne : m.at' ≠ l.length) (hf : Few l) (hpg : page.size ≤ 1000000) :
    Calls Tryd.prog 12 #[.pointer (some ⟨b, 0, none⟩)] w fun r w' => r = .returned (.bool (stepR l m).1) ∧ MAt w' b pv ev sb lv (stepR l m).2 ∧ Own b w w' := by
  obtain ⟨k, hk, hkl⟩ := hv.at'
  have hl : k < l.length := by omega
  have hkn : m.at'.toNat = k := by omega
  obtain ⟨hr, ho⟩ := hf _ (List.getElem_mem hl)
  have hx : l[m.at'.toNat]? = some l[k] := by rw [hkn, List.getElem?_eq_getElem hl]
  rcases ho with ho | ho | ho
  · have e : stepR l m = (true, Mach.put { m with at' := m.at' + 1 } l[k].d.toNat (reckF l[k].op (m.r l[k].d.toNat) (m.r l[k].s.toNat) l[k].imm)) := by
      unfold stepR
      rw [hx]
      dsimp only
      rw [if_neg (by omega), if_neg (by omega)]
    rw [e]
    exact step_reckon h l hp k hk hl hr ho hv.okr
  · have e : stepR l m = helpF l[k].imm { m with at' := m.at' + 1 } := by
      unfold stepR
      rw [hx]
      dsimp only
      rw [if_pos ho]
    rw [e]
    exact step_call h l hp k hk hl hr ho (by rw [hv.page]; exact hpg) (by have := (hv.okr 3 (by decide)).2; omega)
  · have e : stepR l m = (true, { m with at' := m.at' + 1, ended := true, code := m.r 0 }) := by
      unfold stepR
      rw [hx]
      dsimp only
      rw [if_neg (by omega), if_pos ho]
    rw [e]
    exact step_exit h l hp k hk hl hr ho

/-- A run with so much fuel, of which some was used: the error, the machine, the steps. -/
def runR (l : List In4) : Nat → Mach → Nat → Int × Mach × Nat
  | n, m, s =>
    if m.ended = true then (0, m, s)
    else if m.at' = l.length then (15, m, s)
    else match n with
      | 0 => (12, m, s)
      | n + 1 => if (stepR l m).1 = true then runR l n (stepR l m).2 (s + 1) else (15, (stepR l m).2, s + 1)

end Go.Proofs.YtncjlcgndhodmabDoor.Rn
