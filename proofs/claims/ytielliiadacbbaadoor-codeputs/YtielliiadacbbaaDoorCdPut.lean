/-
  The program's Put of a program of at most 128 instructions. No condition.
-/
import Derived.Test.YtielliiadacbbaaDoorCdM
import Derived.Test.YtielliiadacbbaaDoorCdB
import Derived.Test.YtielliiadacbbaaDoorLeIn
namespace Go.Proofs.YtielliiadacbbaaDoor.Cd
open Go.ChangeShapes Go.WideShapes Go.ChangeAt Go.RowKit
open Go.Proofs.YtielliiadacbbaaDoor.Nv (lt_of_heap lt_of_cell cell_of_heap free_of_heap)
open Go.Proofs.YtielliiadacbbaaDoor.Le (putF numF OutS num_any4 string_some errV)

set_option maxRecDepth 100000
set_option maxHeartbeats 4000000

def intOf : Value → Int | .int _ n => n | _ => 0
/-- Instructions that may be read. -/
def InsAt (w : World) (v : Value) (l : List In4) : Prop :=
  (v = .slice none 0 0 ∧ l = []) ∨ ∃ g off cap, v = .slice (some ⟨g, off, none⟩) l.length cap ∧ l.length ≤ cap ∧ cap ≤ 9223372036854775807 ∧ g < w.heap.size ∧ ∀ i (h : i < l.length), w.cell? ⟨g, off + i * 4, none⟩ = some (.int .i64 l[i].op) ∧ w.cell? ⟨g, off + i * 4 + 1, none⟩ = some (.int .i64 l[i].d) ∧ w.cell? ⟨g, off + i * 4 + 2, none⟩ = some (.int .i64 l[i].s) ∧ w.cell? ⟨g, off + i * 4 + 3, none⟩ = some (.int .i64 l[i].imm)
theorem InsAt.slice {w : World} {v : Value} {l : List In4} (h : InsAt w v l) : ∃ a c, v = .slice a l.length c := by
  rcases h with ⟨rfl, rfl⟩ | ⟨g, off, cap, rfl, _⟩
  · exact ⟨none, 0, rfl⟩
  · exact ⟨_, cap, rfl⟩
theorem InsAt.below {w w' : World} {v : Value} {l : List In4} (h : InsAt w v l) (hb : Below w.heap.size w w') : InsAt w' v l := by
  rcases h with h | ⟨g, off, cap, rfl, h1, h2, h3, h4⟩
  · exact .inl h
  · refine .inr ⟨g, off, cap, rfl, h1, h2, Nat.lt_of_lt_of_le h3 hb.size, fun i hi => ?_⟩
    obtain ⟨e0, e1, e2, e3⟩ := h4 i hi
    exact ⟨(World.cell?_of_block (hb.block g h3)).trans e0, (World.cell?_of_block (hb.block g h3)).trans e1, (World.cell?_of_block (hb.block g h3)).trans e2, (World.cell?_of_block (hb.block g h3)).trans e3⟩
theorem out_alloc {w : World} {b : Nat} {xs : List UInt8} (h : OutS w b (some xs)) (o : Obj) : OutS (w.alloc o) b (some xs) := by
  obtain ⟨v, hh, hr⟩ := h
  exact ⟨v, (Below.heap_alloc _ _ _ (lt_of_heap hh)).trans hh, World.ownsRow.alloc hr o⟩
theorem row_lt {w : World} {B e size n : Nat} {v : Value} {xs : List Value} (h : w.ownsRow B e size v n xs) (g : Nat) (hg : v.ownBlock = some g) : g < w.heap.size := by
  rcases h.2 with ⟨rfl, _⟩ | ⟨g', cap, cur, rfl, _, hh, _⟩
  · cases hg
  · cases hg
    exact lt_of_heap hh
theorem out_apart {w : World} {b : Nat} {xs : List UInt8} (h : OutS w b (some xs)) (o : Obj) : Le.Apart (w.alloc o) b w.heap.size := by
  obtain ⟨v, hh, hr⟩ := h
  have hlt := lt_of_heap hh
  refine ⟨by omega, fun v' l' h' => ?_⟩
  rw [(Below.heap_alloc w o b hlt).trans hh] at h'
  cases h'
  intro e
  have := row_lt hr _ e
  omega
/-- What is apart stays so where nothing that was there is turned. -/
theorem apart_below {w w' : World} {b k : Nat} {xs : List UInt8} (h : OutS w b (some xs)) (ha : Le.Apart w b k) (hb : Below w.heap.size w w') : Le.Apart w' b k := by
  obtain ⟨v, hh, hr⟩ := h
  refine ⟨ha.1, fun v' l' h' => ?_⟩
  rw [(hb.block b (lt_of_heap hh)).trans hh] at h'
  cases h'
  exact ha.2 _ _ hh

/-- What Put answers. -/
def putV (l : List In4) : Value := .tuple #[.string ⟨(progB l).toArray⟩, .nilIface]
def putX : Value := .tuple #[.string ByteArray.empty, errV 1]
def putR (l : List In4) : Value := if l.all (fun x => decide (RightP x)) = true then putV l else putX

theorem put_any (v : Value) (l : List In4) (w : World) (h : InsAt w v l) (hl : l.length ≤ 128) :
    Calls Tryd.prog 9 #[v] w fun r w' => r = .returned (putR l) ∧ Below w.heap.size w w' := by
  have HI : Hid (InsAt w v l) := h
  obtain ⟨a, cap, rfl⟩ := h.slice
  have hcap : l.length ≤ 9223372036854775807 := by omega
  have hgt : decide ((128 : Int) < (l.length : Int)) = false := decide_eq_false (by omega)
  obtain ⟨w0, hw0⟩ : ∃ w0, w0 = w.alloc (Obj.cells #[.slice none 0 0, .bool false] 51) := ⟨_, rfl⟩
  have HB0 : Hid (Below w.heap.size w w0) := by rw [hw0]; exact (Below.refl _ _).alloc (Nat.le_refl _) _
  have HO0 : Hid (OutS w0 w.heap.size (some [])) := by
    rw [hw0]
    exact ⟨.slice none 0 0, heap_alloc_new _ _, World.ownsRow_nil _ _ _ _⟩
  clear h
  obtain ⟨n, hn⟩ : ∃ n, l.length = n := ⟨_, rfl⟩
  have HLN : Hid (l.length = n) := hn
  rw [hn] at hgt hl hcap ⊢
  obtain ⟨ob, hob0⟩ : ∃ ob, w.heap.size = ob := ⟨_, rfl⟩
  have hob : w.heap.size ≤ ob := Nat.le_of_eq hob0
  have HOB : Hid (w.heap.size = ob) := hob0
  clear hn hob0
  go_enter Tryd.func9, Tryd.ntmps9
  go_wp2_with fail
  rw [← hw0]
  clear hw0
  go_loopw [13] (fun i wr => ∃ k : Nat, k ≤ n ∧ i = .int .i64 k ∧ OutS wr w.heap.size (some (progB (l.take k))) ∧ Below w.heap.size w wr ∧ ∀ x ∈ l.take k, RightP x) (fun i _ => n - (intOf i).toNat)
  case atStart => exact ⟨0, Nat.zero_le _, rfl, HO0.out, HB0.out, fun x hx => by cases hx⟩
  case round =>
    clear HB0 HO0
    obtain ⟨k, hk, rfl, hO, hB, hR⟩ := hrel
    have HO : Hid (OutS wr w.heap.size (some (progB (l.take k)))) := hO
    have HB : Hid (Below w.heap.size w wr) := hB
    have HR : Hid (∀ x ∈ l.take k, RightP x) := hR
    have HLP : Hid ((progB (l.take k)).length ≤ 1024) := by
      show _ ≤ _
      rw [progB_length hR, List.length_take]
      omega
    clear hO hB hR
    by_cases hlt : k < n
    · have hkl : k < l.length := by rw [HLN.out]; exact hlt
      obtain ⟨g, off, cap', he, h1, h2, h3, h4⟩ : ∃ g off cap', Value.slice a n cap = .slice (some ⟨g, off, none⟩) n cap' ∧ n ≤ cap' ∧ cap' ≤ 9223372036854775807 ∧ g < w.heap.size ∧ ∀ i (h : i < l.length), w.cell? ⟨g, off + i * 4, none⟩ = some (.int .i64 l[i].op) ∧ w.cell? ⟨g, off + i * 4 + 1, none⟩ = some (.int .i64 l[i].d) ∧ w.cell? ⟨g, off + i * 4 + 2, none⟩ = some (.int .i64 l[i].s) ∧ w.cell? ⟨g, off + i * 4 + 3, none⟩ = some (.int .i64 l[i].imm) := by
        rcases HI.out with ⟨_, h0⟩ | ⟨g, off, cap', he, h1, h2, h3, h4⟩
        · rw [h0] at hkl
          cases hkl
        · rw [HLN.out] at he h1
          exact ⟨g, off, cap', he, h1, h2, h3, h4⟩
      cases he
      obtain ⟨e0, e1, e2, e3⟩ := h4 k hkl
      have a0 := (World.cell?_of_block (a := ⟨g, off + k * 4, none⟩) (HB.out.block g h3)).trans e0
      have a1 := (World.cell?_of_block (a := ⟨g, off + k * 4 + 1, none⟩) (HB.out.block g h3)).trans e1
      have a2 := (World.cell?_of_block (a := ⟨g, off + k * 4 + 2, none⟩) (HB.out.block g h3)).trans e2
      have a3 := (World.cell?_of_block (a := ⟨g, off + k * 4 + 3, none⟩) (HB.out.block g h3)).trans e3
      have HSU : Hid (progB (l.take (k + 1)) = progB (l.take k) ++ insB l[k]) := progB_succ l k hkl
      have HTS : Hid (l.take (k + 1) = l.take k ++ [l[k]]) := List.take_succ_eq_append_getElem hkl
      have HME : Hid (l[k] ∈ l) := List.getElem_mem hkl
      clear e0 e1 e2 e3 h4
      generalize l[k] = x at *
      obtain ⟨wa, hwa⟩ : ∃ wa, wa = wr.alloc (Obj.cells #[.int .i64 x.op, .int .i64 x.d, .int .i64 x.s, .int .i64 x.imm] 27) := ⟨_, rfl⟩
      have HBA : Hid (Below w.heap.size w wa) := by rw [hwa]; exact HB.out.alloc HB.out.size _
      have HXA : Hid (wa.heap[wr.heap.size]? = some (.cells #[.int .i64 x.op, .int .i64 x.d, .int .i64 x.s, .int .i64 x.imm] 27 (0, 0))) := by rw [hwa]; exact heap_alloc_new _ _
      have HOA : Hid (OutS wa w.heap.size (some (progB (l.take k)))) := by rw [hwa]; exact out_alloc HO.out _
      have HAP : Hid (Le.Apart wa w.heap.size wr.heap.size) := by rw [hwa]; exact out_apart HO.out _
      have c0 := cell_of_heap HXA.out 0 _ rfl
      have c1 := cell_of_heap HXA.out 1 _ rfl
      have c2 := cell_of_heap HXA.out 2 _ rfl
      have c3 := cell_of_heap HXA.out 3 _ rfl
      have HRI := fun w => right_any x w
      have HRI' : Hid (∀ w, _) := HRI
      clear HRI
      go_wp2_with fail
      rw [← hwa]
      clear hwa
      refine (HRI'.out _).mono ?_
      rintro r w2 ⟨rfl, hb2⟩
      have HB2 : Hid (Below w.heap.size w w2) := HBA.out.trans (hb2.mono HBA.out.size)
      have HX2 : Hid (w2.heap[wr.heap.size]? = some (.cells #[.int .i64 x.op, .int .i64 x.d, .int .i64 x.s, .int .i64 x.imm] 27 (0, 0)) ∧ Le.Apart w2 w.heap.size wr.heap.size) := ⟨(hb2.block _ (lt_of_heap HXA.out)).trans HXA.out, apart_below HOA.out HAP.out hb2⟩
      have HO2 : Hid (OutS w2 w.heap.size (some (progB (l.take k)))) := HOA.out.kept hb2
      clear hb2 HBA HXA HOA HAP HB HO HRI' c0 c1 c2 c3 a0 a1 a2 a3
      by_cases hp : RightP x
      · rw [decide_eq_true hp]
        obtain ⟨p1, p2, p3, p4, _⟩ := parts hp
        have p0 : (insA x).length = 1 := p1
        have hpi := hp.imm
        have hwi : IntKind.i64.wrap (x.imm + 2147483648) = x.imm + 2147483648 := IntWalk.i64_in _ (by omega)
        have c0 := cell_of_heap HX2.out.1 0 _ rfl
        have c1 := cell_of_heap HX2.out.1 1 _ rfl
        have c2 := cell_of_heap HX2.out.1 2 _ rfl
        have c3 := cell_of_heap HX2.out.1 3 _ rfl
        go_wp2_with fail
        have F3 : Hid (numF (some (progB (l.take k))) x.op (1 : Nat) = some (progB (l.take k) ++ insA x)) := (numF_in (progB (l.take k)) x.op (1 : Nat) (by decide) (by decide) hp.1.1 (by have := hp.1.2; show x.op < 256; omega)).1
        refine (num_any4 w2 w.heap.size (some (progB (l.take k))) x.op (1 : Nat) HO2.out (fun xs hxs => by cases hxs; have := HLP.out; omega)).mono ?_
        rintro r w3 ⟨rfl, ho3, hb3, hf3⟩
        rw [F3.out] at ho3
        have HO3 : Hid (OutS w3 w.heap.size (some (progB (l.take k) ++ insA x))) := ho3
        have HB3 : Hid (Below w.heap.size w w3) := HB2.out.trans (hb3.mono (Nat.le_refl _))
        have HX3 : Hid (w3.heap[wr.heap.size]? = some (.cells #[.int .i64 x.op, .int .i64 x.d, .int .i64 x.s, .int .i64 x.imm] 27 (0, 0)) ∧ Le.Apart w3 w.heap.size wr.heap.size) := ⟨(hf3 _ (lt_of_heap HX2.out.1) HX2.out.2).1.trans HX2.out.1, (hf3 _ (lt_of_heap HX2.out.1) HX2.out.2).2⟩
        clear ho3 hb3 hf3 HO2 HB2 HX2 F3 c0 c1 c2 c3
        have c0 := cell_of_heap HX3.out.1 0 _ rfl
        have c1 := cell_of_heap HX3.out.1 1 _ rfl
        have c2 := cell_of_heap HX3.out.1 2 _ rfl
        have c3 := cell_of_heap HX3.out.1 3 _ rfl
        go_wp2_with fail
        have F4 : Hid (numF (some (progB (l.take k) ++ insA x)) x.d (1 : Nat) = some (progB (l.take k) ++ insA x ++ (putF x.d (1 : Nat)).data.toList)) := (numF_in (progB (l.take k) ++ insA x) x.d (1 : Nat) (by decide) (by decide) hp.2.1.1 (by have := hp.2.1.2; show x.d < 256; omega)).1
        refine (num_any4 w3 w.heap.size (some (progB (l.take k) ++ insA x)) x.d (1 : Nat) HO3.out (fun xs hxs => by cases hxs; have := HLP.out; simp only [List.length_append, p0]; omega)).mono ?_
        rintro r w4 ⟨rfl, ho4, hb4, hf4⟩
        rw [F4.out] at ho4
        have HO4 : Hid (OutS w4 w.heap.size (some (progB (l.take k) ++ insA x ++ (putF x.d (1 : Nat)).data.toList))) := ho4
        have HB4 : Hid (Below w.heap.size w w4) := HB3.out.trans (hb4.mono (Nat.le_refl _))
        have HX4 : Hid (w4.heap[wr.heap.size]? = some (.cells #[.int .i64 x.op, .int .i64 x.d, .int .i64 x.s, .int .i64 x.imm] 27 (0, 0)) ∧ Le.Apart w4 w.heap.size wr.heap.size) := ⟨(hf4 _ (lt_of_heap HX3.out.1) HX3.out.2).1.trans HX3.out.1, (hf4 _ (lt_of_heap HX3.out.1) HX3.out.2).2⟩
        clear ho4 hb4 hf4 HO3 HB3 HX3 F4 c0 c1 c2 c3
        have c0 := cell_of_heap HX4.out.1 0 _ rfl
        have c1 := cell_of_heap HX4.out.1 1 _ rfl
        have c2 := cell_of_heap HX4.out.1 2 _ rfl
        have c3 := cell_of_heap HX4.out.1 3 _ rfl
        go_wp2_with fail
        have F5 : Hid (numF (some (progB (l.take k) ++ insA x ++ (putF x.d (1 : Nat)).data.toList)) x.s (1 : Nat) = some (progB (l.take k) ++ insA x ++ (putF x.d (1 : Nat)).data.toList ++ (putF x.s (1 : Nat)).data.toList)) := (numF_in (progB (l.take k) ++ insA x ++ (putF x.d (1 : Nat)).data.toList) x.s (1 : Nat) (by decide) (by decide) hp.2.2.1.1 (by have := hp.2.2.1.2; show x.s < 256; omega)).1
        refine (num_any4 w4 w.heap.size (some (progB (l.take k) ++ insA x ++ (putF x.d (1 : Nat)).data.toList)) x.s (1 : Nat) HO4.out (fun xs hxs => by cases hxs; have := HLP.out; simp only [List.length_append, p0, p2]; omega)).mono ?_
        rintro r w5 ⟨rfl, ho5, hb5, hf5⟩
        rw [F5.out] at ho5
        have HO5 : Hid (OutS w5 w.heap.size (some (progB (l.take k) ++ insA x ++ (putF x.d (1 : Nat)).data.toList ++ (putF x.s (1 : Nat)).data.toList))) := ho5
        have HB5 : Hid (Below w.heap.size w w5) := HB4.out.trans (hb5.mono (Nat.le_refl _))
        have HX5 : Hid (w5.heap[wr.heap.size]? = some (.cells #[.int .i64 x.op, .int .i64 x.d, .int .i64 x.s, .int .i64 x.imm] 27 (0, 0)) ∧ Le.Apart w5 w.heap.size wr.heap.size) := ⟨(hf5 _ (lt_of_heap HX4.out.1) HX4.out.2).1.trans HX4.out.1, (hf5 _ (lt_of_heap HX4.out.1) HX4.out.2).2⟩
        clear ho5 hb5 hf5 HO4 HB4 HX4 F5 c0 c1 c2 c3
        have c0 := cell_of_heap HX5.out.1 0 _ rfl
        have c1 := cell_of_heap HX5.out.1 1 _ rfl
        have c2 := cell_of_heap HX5.out.1 2 _ rfl
        have c3 := cell_of_heap HX5.out.1 3 _ rfl
        go_wp2_with fail
        have F6 : Hid (numF (some (progB (l.take k) ++ insA x ++ (putF x.d (1 : Nat)).data.toList ++ (putF x.s (1 : Nat)).data.toList)) 0 (1 : Nat) = some (progB (l.take k) ++ insA x ++ (putF x.d (1 : Nat)).data.toList ++ (putF x.s (1 : Nat)).data.toList ++ (putF 0 (1 : Nat)).data.toList)) := (numF_in (progB (l.take k) ++ insA x ++ (putF x.d (1 : Nat)).data.toList ++ (putF x.s (1 : Nat)).data.toList) 0 (1 : Nat) (by decide) (by decide) (by decide) (by decide)).1
        refine (num_any4 w5 w.heap.size (some (progB (l.take k) ++ insA x ++ (putF x.d (1 : Nat)).data.toList ++ (putF x.s (1 : Nat)).data.toList)) 0 (1 : Nat) HO5.out (fun xs hxs => by cases hxs; have := HLP.out; simp only [List.length_append, p0, p2, p3]; omega)).mono ?_
        rintro r w6 ⟨rfl, ho6, hb6, hf6⟩
        rw [F6.out] at ho6
        have HO6 : Hid (OutS w6 w.heap.size (some (progB (l.take k) ++ insA x ++ (putF x.d (1 : Nat)).data.toList ++ (putF x.s (1 : Nat)).data.toList ++ (putF 0 (1 : Nat)).data.toList))) := ho6
        have HB6 : Hid (Below w.heap.size w w6) := HB5.out.trans (hb6.mono (Nat.le_refl _))
        have HX6 : Hid (w6.heap[wr.heap.size]? = some (.cells #[.int .i64 x.op, .int .i64 x.d, .int .i64 x.s, .int .i64 x.imm] 27 (0, 0)) ∧ Le.Apart w6 w.heap.size wr.heap.size) := ⟨(hf6 _ (lt_of_heap HX5.out.1) HX5.out.2).1.trans HX5.out.1, (hf6 _ (lt_of_heap HX5.out.1) HX5.out.2).2⟩
        clear ho6 hb6 hf6 HO5 HB5 HX5 F6 c0 c1 c2 c3
        have c0 := cell_of_heap HX6.out.1 0 _ rfl
        have c1 := cell_of_heap HX6.out.1 1 _ rfl
        have c2 := cell_of_heap HX6.out.1 2 _ rfl
        have c3 := cell_of_heap HX6.out.1 3 _ rfl
        go_wp2_with fail
        have F7 : Hid (numF (some (progB (l.take k) ++ insA x ++ (putF x.d (1 : Nat)).data.toList ++ (putF x.s (1 : Nat)).data.toList ++ (putF 0 (1 : Nat)).data.toList)) (x.imm + 2147483648) (4 : Nat) = some (progB (l.take k) ++ insA x ++ (putF x.d (1 : Nat)).data.toList ++ (putF x.s (1 : Nat)).data.toList ++ (putF 0 (1 : Nat)).data.toList ++ (putF (x.imm + 2147483648) (4 : Nat)).data.toList)) := (numF_in (progB (l.take k) ++ insA x ++ (putF x.d (1 : Nat)).data.toList ++ (putF x.s (1 : Nat)).data.toList ++ (putF 0 (1 : Nat)).data.toList) (x.imm + 2147483648) (4 : Nat) (by decide) (by decide) (by omega) (by show x.imm + 2147483648 < 4294967296; omega)).1
        refine (num_any4 w6 w.heap.size (some (progB (l.take k) ++ insA x ++ (putF x.d (1 : Nat)).data.toList ++ (putF x.s (1 : Nat)).data.toList ++ (putF 0 (1 : Nat)).data.toList)) (x.imm + 2147483648) (4 : Nat) HO6.out (fun xs hxs => by cases hxs; have := HLP.out; simp only [List.length_append, p0, p2, p3, p4]; omega)).mono ?_
        rintro r w7 ⟨rfl, ho7, hb7, hf7⟩
        rw [F7.out] at ho7
        have HO7 : Hid (OutS w7 w.heap.size (some (progB (l.take k) ++ insA x ++ (putF x.d (1 : Nat)).data.toList ++ (putF x.s (1 : Nat)).data.toList ++ (putF 0 (1 : Nat)).data.toList ++ (putF (x.imm + 2147483648) (4 : Nat)).data.toList))) := ho7
        have HB7 : Hid (Below w.heap.size w w7) := HB6.out.trans (hb7.mono (Nat.le_refl _))
        have HX7 : Hid (w7.heap[wr.heap.size]? = some (.cells #[.int .i64 x.op, .int .i64 x.d, .int .i64 x.s, .int .i64 x.imm] 27 (0, 0)) ∧ Le.Apart w7 w.heap.size wr.heap.size) := ⟨(hf7 _ (lt_of_heap HX6.out.1) HX6.out.2).1.trans HX6.out.1, (hf7 _ (lt_of_heap HX6.out.1) HX6.out.2).2⟩
        clear ho7 hb7 hf7 HO6 HB6 HX6 F7 c0 c1 c2 c3
        have c0 := cell_of_heap HX7.out.1 0 _ rfl
        have c1 := cell_of_heap HX7.out.1 1 _ rfl
        have c2 := cell_of_heap HX7.out.1 2 _ rfl
        have c3 := cell_of_heap HX7.out.1 3 _ rfl
        go_wp2_with fail
        go_roundw
        case rel =>
          have e : progB (l.take k) ++ insA x ++ (putF x.d (1 : Nat)).data.toList ++ (putF x.s (1 : Nat)).data.toList ++ (putF 0 (1 : Nat)).data.toList ++ (putF (x.imm + 2147483648) (4 : Nat)).data.toList = progB (l.take (k + 1)) := by
            rw [HSU.out]
            simp only [insB, insN, insS, insD, List.append_assoc]
          refine ⟨k + 1, by omega, by go_num, by rw [← e]; exact HO7.out, HB7.out, fun y hy => ?_⟩
          rw [HTS.out] at hy
          rcases List.mem_append.1 hy with hy | hy
          · exact HR.out y hy
          · rw [List.mem_singleton.1 hy]; exact hp
        case measure => simp [intOf]; omega
      · rw [decide_eq_false hp]
        have HE : Hid (putR l = putX) := by
          show _ = _
          unfold putR
          rw [if_neg]
          rw [List.all_eq_true]
          exact fun hh => hp (of_decide_eq_true (hh x HME.out))
        go_wp2_with fail
        go_ret2
        exact ⟨by rw [HE.out]; rfl, HB2.out⟩
    · obtain rfl : k = n := by omega
      have HE : Hid (putR l = putV l) := by
        show _ = _
        unfold putR
        rw [if_pos]
        rw [List.all_eq_true]
        intro x hx
        refine decide_eq_true (HR.out x ?_)
        rw [← HLN.out, List.take_length]
        exact hx
      have HPL : Hid (progB (l.take k) = progB l) := by show _ = _; rw [← HLN.out, List.take_length]
      have hS := string_some wr w.heap.size _ HO.out
      rw [HPL.out] at hS
      go_wp2_with fail
      refine hS.mono ?_
      rintro r w2 ⟨rfl, hw2⟩
      subst hw2
      go_wp2
      go_ret2
      exact ⟨by rw [HE.out]; rfl, HB.out⟩

end Go.Proofs.YtielliiadacbbaaDoor.Cd
