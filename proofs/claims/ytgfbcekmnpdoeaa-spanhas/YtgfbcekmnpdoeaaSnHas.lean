/-
  SpanHas answers true for every input: what comes of any numbers of spans is of what comes of the spans. No condition.
-/
import Derived.Test.YtgfbcekmnpdoeaaSnU
import Derived.Test.YtgfbcekmnpdoeaaArOpen
import Derived.Test.YtgfbcekmnpdoeaaArOpen3
namespace Go.Proofs.Ytgfbcekmnpdoeaa.Sn
open Go.ChangeShapes Go.WideShapes Go.ChangeAt Go.RowKit
open Go.Proofs.Ytgfbcekmnpdoeaa.Nv (lt_of_heap lt_of_cell cell_of_heap free_of_heap)

set_option maxRecDepth 100000
set_option maxHeartbeats 4000000

theorem set2_other {w : World} {z k : Nat} (h : k ≠ z) (v0 v1 : Value) : ((w.setCell ⟨z, 0, none⟩ v0).setCell ⟨z, 1, none⟩ v1).heap[k]? = w.heap[k]? :=
  (heap_setCell_other _ ⟨z, 1, none⟩ k _ h).trans (heap_setCell_other _ ⟨z, 0, none⟩ k _ h)
theorem ite_want {b : Bool} {A B : Prop} (h : b = true) (ha : A) : if b = true then A else B := by rw [if_pos h]; exact ha
theorem span_le (x y : Int) : -1099511627776 ≤ mnF (capF x) (capF y) ∧ mnF (capF x) (capF y) ≤ mxF (capF x) (capF y) ∧ mxF (capF x) (capF y) ≤ 1099511627776 := by
  have h1 := capF_lo x
  have h2 := capF_hi x
  have h3 := capF_lo y
  have h4 := capF_hi y
  unfold mnF mxF
  (repeat' split) <;> omega
theorem mul_has {a b x m : Int} (h1 : a ≤ x) (h2 : x ≤ b) : (if m < 0 then capF (b * m) else capF (a * m)) ≤ capF (x * m) ∧ capF (x * m) ≤ (if m < 0 then capF (a * m) else capF (b * m)) := by
  by_cases hm : m < 0
  · rw [if_pos hm, if_pos hm]
    exact ⟨capF_mono (mul_anti h2 (Int.le_of_lt hm)), capF_mono (mul_anti h1 (Int.le_of_lt hm))⟩
  · rw [if_neg hm, if_neg hm]
    exact ⟨capF_mono (mul_mono h1 (Int.not_lt.1 hm)), capF_mono (mul_mono h2 (Int.not_lt.1 hm))⟩

theorem has_reg3 {Q : Exit → Act → World → Prop} (w1 : World) (A : Nat) (x y z u a b c d : Int) (hA1 : w1.heap[A]? = some (.cells #[.int .i64 x, .int .i64 y] 60 (0, 0))) (hA2 : w1.heap[A + 1]? = some (.cells #[.int .i64 z, .int .i64 u] 60 (0, 0))) (HM1 : ∀ w, Calls Try.prog 22 #[.agg #[.int .i64 x, .int .i64 y]] w fun r w' => r = .returned (.agg #[.int .i64 a, .int .i64 b]) ∧ Below w.heap.size w w') (HM2 : ∀ w, Calls Try.prog 22 #[.agg #[.int .i64 z, .int .i64 u]] w fun r w' => r = .returned (.agg #[.int .i64 c, .int .i64 d]) ∧ Below w.heap.size w w') {x0 x1 x2 x5 x6 x7 x8 x9 x10 x11 x12 x13 x14 x15 x16 x17 x18 x19 x20 x21 x22 x23 x24 x25 x26 x27 x28 x29 x30 x31 x32 x33 x34 x35 x36 x37 x38 x39 x40 x41 x42 x43 x44 x45 x46 x47 x48 x49 x50 x51 x52 x53 x54 x55 x56 x57 x58 x59 x60 x61 x62 x63 x64 x65 x66 x67 x68 x69 x70 x71 x72 x73 x74 x75 x76 x77 x78 x79 x80 x81 x82 x83 x84 x85 x86 x87 x88 x89 x90 x91 x92 x93 x94 x95 x96 x97 x98 x99 x100 x101 x102 x103 x104 x105 x106 x107 x108 x109 x110 x111 x112 x113 x114 x115 x116 x117 x118 x119 x120 x121 : Value}
    (hQp : ∀ (c : List PanicEntry) (a : Act) (d : Option Tmp) (v : Value) (w : World), Q (.panic c) (a.put d v) w → Q (.panic c) a w)
    (hfin : ∀ (p1 p2 : Nat) (W : World), Below w1.heap.size w1 W → w1.heap.size ≤ p1 → w1.heap.size ≤ p2 → p1 ≠ p2 → W.heap[p1]? = some (.cells #[.int .i64 a, .int .i64 b] 63 (0, 0)) → W.heap[p2]? = some (.cells #[.int .i64 c, .int .i64 d] 63 (0, 0)) → Q .normal ⟨#[x0, x1, x2, .pointer (some ⟨A, 0, none⟩), .pointer (some ⟨A + 1, 0, none⟩), x5, x6, .pointer (some ⟨p1, 0, none⟩), .pointer (some ⟨p2, 0, none⟩), x9, x10, x11, x12, x13, x14, x15, .agg #[.int .i64 x, .int .i64 y], .agg #[.int .i64 a, .int .i64 b], .agg #[.int .i64 z, .int .i64 u], .agg #[.int .i64 c, .int .i64 d], x20, x21, x22, x23, x24, x25, x26, x27, x28, x29, x30, x31, x32, x33, x34, x35, x36, x37, x38, x39, x40, x41, x42, x43, x44, x45, x46, x47, x48, x49, x50, x51, x52, x53, x54, x55, x56, x57, x58, x59, x60, x61, x62, x63, x64, x65, x66, x67, x68, x69, x70, x71, x72, x73, x74, x75, x76, x77, x78, x79, x80, x81, x82, x83, x84, x85, x86, x87, x88, x89, x90, x91, x92, x93, x94, x95, x96, x97, x98, x99, x100, x101, x102, x103, x104, x105, x106, x107, x108, x109, x110, x111, x112, x113, x114, x115, x116, x117, x118, x119, x120, x121], []⟩ W) :
    (Code.region 3 #[{ dst := some 16, op := Op.load 60 (Operand.tmp 3), type := 60, pos := "law.go:31", after := #[], guard := none }, { dst := some 17, op := Op.call { callee := Callee.value (Operand.func 22), args := #[Operand.tmp 16], argTypes := #[60] }, type := 63, pos := "law.go:31", after := #[{ on := 0, ground := Ground.data }], guard := none }, { dst := some 18, op := Op.load 60 (Operand.tmp 4), type := 60, pos := "law.go:31", after := #[], guard := none }, { dst := some 19, op := Op.call { callee := Callee.value (Operand.func 22), args := #[Operand.tmp 18], argTypes := #[60] }, type := 63, pos := "law.go:31", after := #[{ on := 2, ground := Ground.data }, { on := 1, ground := Ground.chain }], guard := none }, { dst := some 7, op := Op.alloc 63, type := 0, pos := "law.go:31", after := #[], guard := none }, { dst := some 8, op := Op.alloc 63, type := 0, pos := "law.go:31", after := #[], guard := none }, { dst := none, op := Op.store 63 (Operand.tmp 7) (Operand.tmp 17), type := 0, pos := "law.go:31", after := #[{ on := 4, ground := Ground.data }, { on := 1, ground := Ground.data }, { on := 3, ground := Ground.chain }, { on := 0, ground := Ground.phase }, { on := 1, ground := Ground.phase }, { on := 2, ground := Ground.textOnly Departure.lateStores }, { on := 3, ground := Ground.textOnly Departure.lateStoresUnsure }, { on := 4, ground := Ground.phase }, { on := 5, ground := Ground.phase }], guard := none }, { dst := none, op := Op.store 63 (Operand.tmp 8) (Operand.tmp 19), type := 0, pos := "law.go:31", after := #[{ on := 5, ground := Ground.data }, { on := 3, ground := Ground.data }, { on := 6, ground := Ground.chain }, { on := 0, ground := Ground.phase }, { on := 1, ground := Ground.phase }, { on := 2, ground := Ground.phase }, { on := 3, ground := Ground.phase }, { on := 4, ground := Ground.phase }, { on := 5, ground := Ground.phase }, { on := 6, ground := Ground.phase }], guard := none }] true).wp Try.prog Q ⟨#[x0, x1, x2, .pointer (some ⟨A, 0, none⟩), .pointer (some ⟨A + 1, 0, none⟩), x5, x6, x7, x8, x9, x10, x11, x12, x13, x14, x15, x16, x17, x18, x19, x20, x21, x22, x23, x24, x25, x26, x27, x28, x29, x30, x31, x32, x33, x34, x35, x36, x37, x38, x39, x40, x41, x42, x43, x44, x45, x46, x47, x48, x49, x50, x51, x52, x53, x54, x55, x56, x57, x58, x59, x60, x61, x62, x63, x64, x65, x66, x67, x68, x69, x70, x71, x72, x73, x74, x75, x76, x77, x78, x79, x80, x81, x82, x83, x84, x85, x86, x87, x88, x89, x90, x91, x92, x93, x94, x95, x96, x97, x98, x99, x100, x101, x102, x103, x104, x105, x106, x107, x108, x109, x110, x111, x112, x113, x114, x115, x116, x117, x118, x119, x120, x121], []⟩ w1 := by
  obtain ⟨ops, hops⟩ : ∃ ops : Array Oper, ops = #[{ dst := some 16, op := Op.load 60 (Operand.tmp 3), type := 60, pos := "law.go:31", after := #[], guard := none }, { dst := some 17, op := Op.call { callee := Callee.value (Operand.func 22), args := #[Operand.tmp 16], argTypes := #[60] }, type := 63, pos := "law.go:31", after := #[{ on := 0, ground := Ground.data }], guard := none }, { dst := some 18, op := Op.load 60 (Operand.tmp 4), type := 60, pos := "law.go:31", after := #[], guard := none }, { dst := some 19, op := Op.call { callee := Callee.value (Operand.func 22), args := #[Operand.tmp 18], argTypes := #[60] }, type := 63, pos := "law.go:31", after := #[{ on := 2, ground := Ground.data }, { on := 1, ground := Ground.chain }], guard := none }, { dst := some 7, op := Op.alloc 63, type := 0, pos := "law.go:31", after := #[], guard := none }, { dst := some 8, op := Op.alloc 63, type := 0, pos := "law.go:31", after := #[], guard := none }, { dst := none, op := Op.store 63 (Operand.tmp 7) (Operand.tmp 17), type := 0, pos := "law.go:31", after := #[{ on := 4, ground := Ground.data }, { on := 1, ground := Ground.data }, { on := 3, ground := Ground.chain }, { on := 0, ground := Ground.phase }, { on := 1, ground := Ground.phase }, { on := 2, ground := Ground.textOnly Departure.lateStores }, { on := 3, ground := Ground.textOnly Departure.lateStoresUnsure }, { on := 4, ground := Ground.phase }, { on := 5, ground := Ground.phase }], guard := none }, { dst := none, op := Op.store 63 (Operand.tmp 8) (Operand.tmp 19), type := 0, pos := "law.go:31", after := #[{ on := 5, ground := Ground.data }, { on := 3, ground := Ground.data }, { on := 6, ground := Ground.chain }, { on := 0, ground := Ground.phase }, { on := 1, ground := Ground.phase }, { on := 2, ground := Ground.phase }, { on := 3, ground := Ground.phase }, { on := 4, ground := Ground.phase }, { on := 5, ground := Ground.phase }, { on := 6, ground := Ground.phase }], guard := none }] := ⟨_, rfl⟩
  rw [← hops]
  have hAl1 := lt_of_heap hA1
  have hAl2 := lt_of_heap hA2
  have st2_3 : ∀ (p1 p2 : Nat) (W : World), Below w1.heap.size w1 W → W.heap[p1]? = some (.cells #[.int .i64 0, .int .i64 0] 63 (0, 0)) → W.heap[p2]? = some (.cells #[.int .i64 0, .int .i64 0] 63 (0, 0)) → w1.heap.size ≤ p1 → w1.heap.size ≤ p2 → p1 ≠ p2 → (W.cell? ⟨A, 0, none⟩ = some (.int .i64 x) ∧ W.cell? ⟨A, 1, none⟩ = some (.int .i64 y) ∧ W.cell? ⟨A + 1, 0, none⟩ = some (.int .i64 z) ∧ W.cell? ⟨A + 1, 1, none⟩ = some (.int .i64 u)) → wpAnyH Try.prog .any ops Q (fun W => W.cell? ⟨A, 0, none⟩ = some (.int .i64 x) ∧ W.cell? ⟨A, 1, none⟩ = some (.int .i64 y) ∧ W.cell? ⟨A + 1, 0, none⟩ = some (.int .i64 z) ∧ W.cell? ⟨A + 1, 1, none⟩ = some (.int .i64 u)) 2 #[true, true, true, true, true, true, false, false] ⟨#[x0, x1, x2, .pointer (some ⟨A, 0, none⟩), .pointer (some ⟨A + 1, 0, none⟩), x5, x6, .pointer (some ⟨p1, 0, none⟩), .pointer (some ⟨p2, 0, none⟩), x9, x10, x11, x12, x13, x14, x15, .agg #[.int .i64 x, .int .i64 y], .agg #[.int .i64 a, .int .i64 b], .agg #[.int .i64 z, .int .i64 u], .agg #[.int .i64 c, .int .i64 d], x20, x21, x22, x23, x24, x25, x26, x27, x28, x29, x30, x31, x32, x33, x34, x35, x36, x37, x38, x39, x40, x41, x42, x43, x44, x45, x46, x47, x48, x49, x50, x51, x52, x53, x54, x55, x56, x57, x58, x59, x60, x61, x62, x63, x64, x65, x66, x67, x68, x69, x70, x71, x72, x73, x74, x75, x76, x77, x78, x79, x80, x81, x82, x83, x84, x85, x86, x87, x88, x89, x90, x91, x92, x93, x94, x95, x96, x97, x98, x99, x100, x101, x102, x103, x104, x105, x106, x107, x108, x109, x110, x111, x112, x113, x114, x115, x116, x117, x118, x119, x120, x121], []⟩ W := by
    intro p1 p2 W HB Hp1 Hp2 Gp1 Gp2 Dp1p2 hHeld
    subst hops
    have HB' : Hid (Below w1.heap.size w1 W) := HB
    have HHp1 : Hid (W.heap[p1]? = some (.cells #[.int .i64 0, .int .i64 0] 63 (0, 0))) := Hp1
    have HHp2 : Hid (W.heap[p2]? = some (.cells #[.int .i64 0, .int .i64 0] 63 (0, 0))) := Hp2
    clear HB Hp1 Hp2
    refine wpAnyH_ready (rs := [6]) (by kernel_rfl) (by simp) ?_
    refine AllReadyH.cons rfl (fun K hK => ?_) AllReadyH.nil
    obtain ⟨y0, y1, f0, f1⟩ := agg2 HHp1.out
    go_simp
    obtain ⟨W1, hW1⟩ : ∃ W', W' = (W.setCell ⟨p1, 0, none⟩ (.int .i64 a)).setCell ⟨p1, 1, none⟩ (.int .i64 b) := ⟨_, rfl⟩
    have HB0 : Hid (Below w1.heap.size w1 W1) := by rw [hW1]; exact set2_below HB'.out _ Gp1 _ _
    have HKp1 : Hid (W1.heap[p1]? = some (.cells #[.int .i64 a, .int .i64 b] 63 (0, 0))) := by rw [hW1]; exact set2_heap HHp1.out _ _
    have HKp2 : Hid (W1.heap[p2]? = some (.cells #[.int .i64 0, .int .i64 0] 63 (0, 0))) := by rw [hW1]; exact (set2_other (by first | exact Dp2p1 | exact Dp1p2 | exact Ne.symm Dp1p2 | exact Ne.symm Dp2p1) _ _).trans HHp2.out
    rw [← hW1]
    refine hK.out _ _ ⟨?_, ?_, ?_, ?_⟩ (fun hHeld => ?_)
    · rw [hW1, World.cell?_setCell_other _ _ _ _ (by intro h; simp only [Addr.mk.injEq] at h; omega), World.cell?_setCell_other _ _ _ _ (by intro h; simp only [Addr.mk.injEq] at h; omega)]; exact hHeld.1
    · rw [hW1, World.cell?_setCell_other _ _ _ _ (by intro h; simp only [Addr.mk.injEq] at h; omega), World.cell?_setCell_other _ _ _ _ (by intro h; simp only [Addr.mk.injEq] at h; omega)]; exact hHeld.2.1
    · rw [hW1, World.cell?_setCell_other _ _ _ _ (by intro h; simp only [Addr.mk.injEq] at h; omega), World.cell?_setCell_other _ _ _ _ (by intro h; simp only [Addr.mk.injEq] at h; omega)]; exact hHeld.2.2.1
    · rw [hW1, World.cell?_setCell_other _ _ _ _ (by intro h; simp only [Addr.mk.injEq] at h; omega), World.cell?_setCell_other _ _ _ _ (by intro h; simp only [Addr.mk.injEq] at h; omega)]; exact hHeld.2.2.2
    clear hK K y0 y1 f0 f1 hW1 HHp1 HHp2
    have HHp1 := HKp1; have HHp2 := HKp2
    clear HKp1 HKp2
    refine wpAnyH_ready (rs := [7]) (by kernel_rfl) (by simp) ?_
    refine AllReadyH.cons rfl (fun K hK => ?_) AllReadyH.nil
    obtain ⟨y0, y1, f0, f1⟩ := agg2 HHp2.out
    go_simp
    obtain ⟨W2, hW2⟩ : ∃ W', W' = (W1.setCell ⟨p2, 0, none⟩ (.int .i64 c)).setCell ⟨p2, 1, none⟩ (.int .i64 d) := ⟨_, rfl⟩
    have HB1 : Hid (Below w1.heap.size w1 W2) := by rw [hW2]; exact set2_below HB0.out _ Gp2 _ _
    have HKp1 : Hid (W2.heap[p1]? = some (.cells #[.int .i64 a, .int .i64 b] 63 (0, 0))) := by rw [hW2]; exact (set2_other (by first | exact Dp1p2 | exact Dp2p1 | exact Ne.symm Dp2p1 | exact Ne.symm Dp1p2) _ _).trans HHp1.out
    have HKp2 : Hid (W2.heap[p2]? = some (.cells #[.int .i64 c, .int .i64 d] 63 (0, 0))) := by rw [hW2]; exact set2_heap HHp2.out _ _
    rw [← hW2]
    refine hK.out _ _ ⟨?_, ?_, ?_, ?_⟩ (fun hHeld => ?_)
    · rw [hW2, World.cell?_setCell_other _ _ _ _ (by intro h; simp only [Addr.mk.injEq] at h; omega), World.cell?_setCell_other _ _ _ _ (by intro h; simp only [Addr.mk.injEq] at h; omega)]; exact hHeld.1
    · rw [hW2, World.cell?_setCell_other _ _ _ _ (by intro h; simp only [Addr.mk.injEq] at h; omega), World.cell?_setCell_other _ _ _ _ (by intro h; simp only [Addr.mk.injEq] at h; omega)]; exact hHeld.2.1
    · rw [hW2, World.cell?_setCell_other _ _ _ _ (by intro h; simp only [Addr.mk.injEq] at h; omega), World.cell?_setCell_other _ _ _ _ (by intro h; simp only [Addr.mk.injEq] at h; omega)]; exact hHeld.2.2.1
    · rw [hW2, World.cell?_setCell_other _ _ _ _ (by intro h; simp only [Addr.mk.injEq] at h; omega), World.cell?_setCell_other _ _ _ _ (by intro h; simp only [Addr.mk.injEq] at h; omega)]; exact hHeld.2.2.2
    clear hK K y0 y1 f0 f1 hW2 HHp1 HHp2
    have HHp1 := HKp1; have HHp2 := HKp2
    clear HKp1 HKp2
    refine wpAnyH_done (by kernel_rfl) ?_ _
    exact hfin p1 p2 _ HB1.out Gp1 Gp2 Dp1p2 HHp1.out HHp2.out
  have st2_1 : ∀ (p1 : Nat) (W : World), Below w1.heap.size w1 W → W.heap[p1]? = some (.cells #[.int .i64 0, .int .i64 0] 63 (0, 0)) → w1.heap.size ≤ p1 → (W.cell? ⟨A, 0, none⟩ = some (.int .i64 x) ∧ W.cell? ⟨A, 1, none⟩ = some (.int .i64 y) ∧ W.cell? ⟨A + 1, 0, none⟩ = some (.int .i64 z) ∧ W.cell? ⟨A + 1, 1, none⟩ = some (.int .i64 u)) → wpAnyH Try.prog .any ops Q (fun W => W.cell? ⟨A, 0, none⟩ = some (.int .i64 x) ∧ W.cell? ⟨A, 1, none⟩ = some (.int .i64 y) ∧ W.cell? ⟨A + 1, 0, none⟩ = some (.int .i64 z) ∧ W.cell? ⟨A + 1, 1, none⟩ = some (.int .i64 u)) 3 #[true, true, true, true, true, false, false, false] ⟨#[x0, x1, x2, .pointer (some ⟨A, 0, none⟩), .pointer (some ⟨A + 1, 0, none⟩), x5, x6, .pointer (some ⟨p1, 0, none⟩), x8, x9, x10, x11, x12, x13, x14, x15, .agg #[.int .i64 x, .int .i64 y], .agg #[.int .i64 a, .int .i64 b], .agg #[.int .i64 z, .int .i64 u], .agg #[.int .i64 c, .int .i64 d], x20, x21, x22, x23, x24, x25, x26, x27, x28, x29, x30, x31, x32, x33, x34, x35, x36, x37, x38, x39, x40, x41, x42, x43, x44, x45, x46, x47, x48, x49, x50, x51, x52, x53, x54, x55, x56, x57, x58, x59, x60, x61, x62, x63, x64, x65, x66, x67, x68, x69, x70, x71, x72, x73, x74, x75, x76, x77, x78, x79, x80, x81, x82, x83, x84, x85, x86, x87, x88, x89, x90, x91, x92, x93, x94, x95, x96, x97, x98, x99, x100, x101, x102, x103, x104, x105, x106, x107, x108, x109, x110, x111, x112, x113, x114, x115, x116, x117, x118, x119, x120, x121], []⟩ W := by
    intro p1 W HB Hp1 Gp1 hHeld
    have HB' : Hid (Below w1.heap.size w1 W) := HB
    subst hops
    refine wpAnyH_ready (rs := [5]) (by kernel_rfl) (by simp) ?_
    refine AllReadyH.cons rfl (fun K hK => ?_) AllReadyH.nil
    go_simp
    try go_wp2_with fail
    exact hK.out _ _ ⟨(((Below.refl W.heap.size W).alloc (Nat.le_refl _) _).cell (p := ⟨A, 0, none⟩) (lt_of_cell hHeld.1)).trans hHeld.1, (((Below.refl W.heap.size W).alloc (Nat.le_refl _) _).cell (p := ⟨A, 1, none⟩) (lt_of_cell hHeld.2.1)).trans hHeld.2.1, (((Below.refl W.heap.size W).alloc (Nat.le_refl _) _).cell (p := ⟨A + 1, 0, none⟩) (lt_of_cell hHeld.2.2.1)).trans hHeld.2.2.1, (((Below.refl W.heap.size W).alloc (Nat.le_refl _) _).cell (p := ⟨A + 1, 1, none⟩) (lt_of_cell hHeld.2.2.2)).trans hHeld.2.2.2⟩ (fun hHeld => st2_3 p1 W.heap.size _ (HB'.out.alloc HB'.out.size _) ((Below.heap_alloc _ _ _ (lt_of_heap Hp1)).trans Hp1) (heap_alloc_new W _) Gp1 HB'.out.size (fun e => Nat.lt_irrefl _ (e ▸ lt_of_heap Hp1)) hHeld)
  have st2_2 : ∀ (p2 : Nat) (W : World), Below w1.heap.size w1 W → W.heap[p2]? = some (.cells #[.int .i64 0, .int .i64 0] 63 (0, 0)) → w1.heap.size ≤ p2 → (W.cell? ⟨A, 0, none⟩ = some (.int .i64 x) ∧ W.cell? ⟨A, 1, none⟩ = some (.int .i64 y) ∧ W.cell? ⟨A + 1, 0, none⟩ = some (.int .i64 z) ∧ W.cell? ⟨A + 1, 1, none⟩ = some (.int .i64 u)) → wpAnyH Try.prog .any ops Q (fun W => W.cell? ⟨A, 0, none⟩ = some (.int .i64 x) ∧ W.cell? ⟨A, 1, none⟩ = some (.int .i64 y) ∧ W.cell? ⟨A + 1, 0, none⟩ = some (.int .i64 z) ∧ W.cell? ⟨A + 1, 1, none⟩ = some (.int .i64 u)) 3 #[true, true, true, true, false, true, false, false] ⟨#[x0, x1, x2, .pointer (some ⟨A, 0, none⟩), .pointer (some ⟨A + 1, 0, none⟩), x5, x6, x7, .pointer (some ⟨p2, 0, none⟩), x9, x10, x11, x12, x13, x14, x15, .agg #[.int .i64 x, .int .i64 y], .agg #[.int .i64 a, .int .i64 b], .agg #[.int .i64 z, .int .i64 u], .agg #[.int .i64 c, .int .i64 d], x20, x21, x22, x23, x24, x25, x26, x27, x28, x29, x30, x31, x32, x33, x34, x35, x36, x37, x38, x39, x40, x41, x42, x43, x44, x45, x46, x47, x48, x49, x50, x51, x52, x53, x54, x55, x56, x57, x58, x59, x60, x61, x62, x63, x64, x65, x66, x67, x68, x69, x70, x71, x72, x73, x74, x75, x76, x77, x78, x79, x80, x81, x82, x83, x84, x85, x86, x87, x88, x89, x90, x91, x92, x93, x94, x95, x96, x97, x98, x99, x100, x101, x102, x103, x104, x105, x106, x107, x108, x109, x110, x111, x112, x113, x114, x115, x116, x117, x118, x119, x120, x121], []⟩ W := by
    intro p2 W HB Hp2 Gp2 hHeld
    have HB' : Hid (Below w1.heap.size w1 W) := HB
    subst hops
    refine wpAnyH_ready (rs := [4]) (by kernel_rfl) (by simp) ?_
    refine AllReadyH.cons rfl (fun K hK => ?_) AllReadyH.nil
    go_simp
    try go_wp2_with fail
    exact hK.out _ _ ⟨(((Below.refl W.heap.size W).alloc (Nat.le_refl _) _).cell (p := ⟨A, 0, none⟩) (lt_of_cell hHeld.1)).trans hHeld.1, (((Below.refl W.heap.size W).alloc (Nat.le_refl _) _).cell (p := ⟨A, 1, none⟩) (lt_of_cell hHeld.2.1)).trans hHeld.2.1, (((Below.refl W.heap.size W).alloc (Nat.le_refl _) _).cell (p := ⟨A + 1, 0, none⟩) (lt_of_cell hHeld.2.2.1)).trans hHeld.2.2.1, (((Below.refl W.heap.size W).alloc (Nat.le_refl _) _).cell (p := ⟨A + 1, 1, none⟩) (lt_of_cell hHeld.2.2.2)).trans hHeld.2.2.2⟩ (fun hHeld => st2_3 W.heap.size p2 _ (HB'.out.alloc HB'.out.size _) (heap_alloc_new W _) ((Below.heap_alloc _ _ _ (lt_of_heap Hp2)).trans Hp2) HB'.out.size Gp2 (fun e => Nat.lt_irrefl _ (e ▸ lt_of_heap Hp2)) hHeld)
  have st2_0 : ∀ (W : World), Below w1.heap.size w1 W → (W.cell? ⟨A, 0, none⟩ = some (.int .i64 x) ∧ W.cell? ⟨A, 1, none⟩ = some (.int .i64 y) ∧ W.cell? ⟨A + 1, 0, none⟩ = some (.int .i64 z) ∧ W.cell? ⟨A + 1, 1, none⟩ = some (.int .i64 u)) → wpAnyH Try.prog .any ops Q (fun W => W.cell? ⟨A, 0, none⟩ = some (.int .i64 x) ∧ W.cell? ⟨A, 1, none⟩ = some (.int .i64 y) ∧ W.cell? ⟨A + 1, 0, none⟩ = some (.int .i64 z) ∧ W.cell? ⟨A + 1, 1, none⟩ = some (.int .i64 u)) 4 #[true, true, true, true, false, false, false, false] ⟨#[x0, x1, x2, .pointer (some ⟨A, 0, none⟩), .pointer (some ⟨A + 1, 0, none⟩), x5, x6, x7, x8, x9, x10, x11, x12, x13, x14, x15, .agg #[.int .i64 x, .int .i64 y], .agg #[.int .i64 a, .int .i64 b], .agg #[.int .i64 z, .int .i64 u], .agg #[.int .i64 c, .int .i64 d], x20, x21, x22, x23, x24, x25, x26, x27, x28, x29, x30, x31, x32, x33, x34, x35, x36, x37, x38, x39, x40, x41, x42, x43, x44, x45, x46, x47, x48, x49, x50, x51, x52, x53, x54, x55, x56, x57, x58, x59, x60, x61, x62, x63, x64, x65, x66, x67, x68, x69, x70, x71, x72, x73, x74, x75, x76, x77, x78, x79, x80, x81, x82, x83, x84, x85, x86, x87, x88, x89, x90, x91, x92, x93, x94, x95, x96, x97, x98, x99, x100, x101, x102, x103, x104, x105, x106, x107, x108, x109, x110, x111, x112, x113, x114, x115, x116, x117, x118, x119, x120, x121], []⟩ W := by
    intro  W HB hHeld
    have HB' : Hid (Below w1.heap.size w1 W) := HB
    subst hops
    refine wpAnyH_ready (rs := [4, 5]) (by kernel_rfl) (by simp) ?_
    refine AllReadyH.cons rfl (fun K hK => ?_) ?_
    · go_simp
      try go_wp2_with fail
      exact hK.out _ _ ⟨(((Below.refl W.heap.size W).alloc (Nat.le_refl _) _).cell (p := ⟨A, 0, none⟩) (lt_of_cell hHeld.1)).trans hHeld.1, (((Below.refl W.heap.size W).alloc (Nat.le_refl _) _).cell (p := ⟨A, 1, none⟩) (lt_of_cell hHeld.2.1)).trans hHeld.2.1, (((Below.refl W.heap.size W).alloc (Nat.le_refl _) _).cell (p := ⟨A + 1, 0, none⟩) (lt_of_cell hHeld.2.2.1)).trans hHeld.2.2.1, (((Below.refl W.heap.size W).alloc (Nat.le_refl _) _).cell (p := ⟨A + 1, 1, none⟩) (lt_of_cell hHeld.2.2.2)).trans hHeld.2.2.2⟩ (fun hHeld => st2_1 W.heap.size _ (HB'.out.alloc HB'.out.size _) (heap_alloc_new W _) HB'.out.size  hHeld)
    refine AllReadyH.cons rfl (fun K hK => ?_) AllReadyH.nil
    go_simp
    try go_wp2_with fail
    exact hK.out _ _ ⟨(((Below.refl W.heap.size W).alloc (Nat.le_refl _) _).cell (p := ⟨A, 0, none⟩) (lt_of_cell hHeld.1)).trans hHeld.1, (((Below.refl W.heap.size W).alloc (Nat.le_refl _) _).cell (p := ⟨A, 1, none⟩) (lt_of_cell hHeld.2.1)).trans hHeld.2.1, (((Below.refl W.heap.size W).alloc (Nat.le_refl _) _).cell (p := ⟨A + 1, 0, none⟩) (lt_of_cell hHeld.2.2.1)).trans hHeld.2.2.1, (((Below.refl W.heap.size W).alloc (Nat.le_refl _) _).cell (p := ⟨A + 1, 1, none⟩) (lt_of_cell hHeld.2.2.2)).trans hHeld.2.2.2⟩ (fun hHeld => st2_2 W.heap.size _ (HB'.out.alloc HB'.out.size _) (heap_alloc_new W _) HB'.out.size  hHeld)
  have st1_3 : ∀ (p1 p2 : Nat) (W : World), Below w1.heap.size w1 W → W.heap[p1]? = some (.cells #[.int .i64 0, .int .i64 0] 63 (0, 0)) → W.heap[p2]? = some (.cells #[.int .i64 0, .int .i64 0] 63 (0, 0)) → w1.heap.size ≤ p1 → w1.heap.size ≤ p2 → p1 ≠ p2 → (W.cell? ⟨A, 0, none⟩ = some (.int .i64 x) ∧ W.cell? ⟨A, 1, none⟩ = some (.int .i64 y) ∧ W.cell? ⟨A + 1, 0, none⟩ = some (.int .i64 z) ∧ W.cell? ⟨A + 1, 1, none⟩ = some (.int .i64 u)) → wpAnyH Try.prog .any ops Q (fun W => W.cell? ⟨A, 0, none⟩ = some (.int .i64 x) ∧ W.cell? ⟨A, 1, none⟩ = some (.int .i64 y) ∧ W.cell? ⟨A + 1, 0, none⟩ = some (.int .i64 z) ∧ W.cell? ⟨A + 1, 1, none⟩ = some (.int .i64 u)) 3 #[true, true, true, false, true, true, false, false] ⟨#[x0, x1, x2, .pointer (some ⟨A, 0, none⟩), .pointer (some ⟨A + 1, 0, none⟩), x5, x6, .pointer (some ⟨p1, 0, none⟩), .pointer (some ⟨p2, 0, none⟩), x9, x10, x11, x12, x13, x14, x15, .agg #[.int .i64 x, .int .i64 y], .agg #[.int .i64 a, .int .i64 b], .agg #[.int .i64 z, .int .i64 u], x19, x20, x21, x22, x23, x24, x25, x26, x27, x28, x29, x30, x31, x32, x33, x34, x35, x36, x37, x38, x39, x40, x41, x42, x43, x44, x45, x46, x47, x48, x49, x50, x51, x52, x53, x54, x55, x56, x57, x58, x59, x60, x61, x62, x63, x64, x65, x66, x67, x68, x69, x70, x71, x72, x73, x74, x75, x76, x77, x78, x79, x80, x81, x82, x83, x84, x85, x86, x87, x88, x89, x90, x91, x92, x93, x94, x95, x96, x97, x98, x99, x100, x101, x102, x103, x104, x105, x106, x107, x108, x109, x110, x111, x112, x113, x114, x115, x116, x117, x118, x119, x120, x121], []⟩ W := by
    intro p1 p2 W HB Hp1 Hp2 Gp1 Gp2 Dp1p2 hHeld
    have HB' : Hid (Below w1.heap.size w1 W) := HB
    subst hops
    refine wpAnyH_ready (rs := [3]) (by kernel_rfl) (by simp) ?_
    refine AllReadyH.cons rfl (fun K hK => ?_) AllReadyH.nil
    go_simp
    go_wp2_with fail
    refine (HM2 _).mono ?_
    rintro r wn ⟨rfl, hbn⟩
    exact hK.out _ _ ⟨(hbn.cell (p := ⟨A, 0, none⟩) (lt_of_cell hHeld.1)).trans hHeld.1, (hbn.cell (p := ⟨A, 1, none⟩) (lt_of_cell hHeld.2.1)).trans hHeld.2.1, (hbn.cell (p := ⟨A + 1, 0, none⟩) (lt_of_cell hHeld.2.2.1)).trans hHeld.2.2.1, (hbn.cell (p := ⟨A + 1, 1, none⟩) (lt_of_cell hHeld.2.2.2)).trans hHeld.2.2.2⟩ (fun hHeld => st2_3 p1 p2 wn (HB'.out.trans (hbn.mono HB'.out.size)) ((hbn.block _ (lt_of_heap Hp1)).trans Hp1) ((hbn.block _ (lt_of_heap Hp2)).trans Hp2) Gp1 Gp2 Dp1p2 hHeld)
  have st1_1 : ∀ (p1 : Nat) (W : World), Below w1.heap.size w1 W → W.heap[p1]? = some (.cells #[.int .i64 0, .int .i64 0] 63 (0, 0)) → w1.heap.size ≤ p1 → (W.cell? ⟨A, 0, none⟩ = some (.int .i64 x) ∧ W.cell? ⟨A, 1, none⟩ = some (.int .i64 y) ∧ W.cell? ⟨A + 1, 0, none⟩ = some (.int .i64 z) ∧ W.cell? ⟨A + 1, 1, none⟩ = some (.int .i64 u)) → wpAnyH Try.prog .any ops Q (fun W => W.cell? ⟨A, 0, none⟩ = some (.int .i64 x) ∧ W.cell? ⟨A, 1, none⟩ = some (.int .i64 y) ∧ W.cell? ⟨A + 1, 0, none⟩ = some (.int .i64 z) ∧ W.cell? ⟨A + 1, 1, none⟩ = some (.int .i64 u)) 4 #[true, true, true, false, true, false, false, false] ⟨#[x0, x1, x2, .pointer (some ⟨A, 0, none⟩), .pointer (some ⟨A + 1, 0, none⟩), x5, x6, .pointer (some ⟨p1, 0, none⟩), x8, x9, x10, x11, x12, x13, x14, x15, .agg #[.int .i64 x, .int .i64 y], .agg #[.int .i64 a, .int .i64 b], .agg #[.int .i64 z, .int .i64 u], x19, x20, x21, x22, x23, x24, x25, x26, x27, x28, x29, x30, x31, x32, x33, x34, x35, x36, x37, x38, x39, x40, x41, x42, x43, x44, x45, x46, x47, x48, x49, x50, x51, x52, x53, x54, x55, x56, x57, x58, x59, x60, x61, x62, x63, x64, x65, x66, x67, x68, x69, x70, x71, x72, x73, x74, x75, x76, x77, x78, x79, x80, x81, x82, x83, x84, x85, x86, x87, x88, x89, x90, x91, x92, x93, x94, x95, x96, x97, x98, x99, x100, x101, x102, x103, x104, x105, x106, x107, x108, x109, x110, x111, x112, x113, x114, x115, x116, x117, x118, x119, x120, x121], []⟩ W := by
    intro p1 W HB Hp1 Gp1 hHeld
    have HB' : Hid (Below w1.heap.size w1 W) := HB
    subst hops
    refine wpAnyH_ready (rs := [3, 5]) (by kernel_rfl) (by simp) ?_
    refine AllReadyH.cons rfl (fun K hK => ?_) ?_
    · go_simp
      go_wp2_with fail
      refine (HM2 _).mono ?_
      rintro r wn ⟨rfl, hbn⟩
      exact hK.out _ _ ⟨(hbn.cell (p := ⟨A, 0, none⟩) (lt_of_cell hHeld.1)).trans hHeld.1, (hbn.cell (p := ⟨A, 1, none⟩) (lt_of_cell hHeld.2.1)).trans hHeld.2.1, (hbn.cell (p := ⟨A + 1, 0, none⟩) (lt_of_cell hHeld.2.2.1)).trans hHeld.2.2.1, (hbn.cell (p := ⟨A + 1, 1, none⟩) (lt_of_cell hHeld.2.2.2)).trans hHeld.2.2.2⟩ (fun hHeld => st2_1 p1 wn (HB'.out.trans (hbn.mono HB'.out.size)) ((hbn.block _ (lt_of_heap Hp1)).trans Hp1) Gp1  hHeld)
    refine AllReadyH.cons rfl (fun K hK => ?_) AllReadyH.nil
    go_simp
    try go_wp2_with fail
    exact hK.out _ _ ⟨(((Below.refl W.heap.size W).alloc (Nat.le_refl _) _).cell (p := ⟨A, 0, none⟩) (lt_of_cell hHeld.1)).trans hHeld.1, (((Below.refl W.heap.size W).alloc (Nat.le_refl _) _).cell (p := ⟨A, 1, none⟩) (lt_of_cell hHeld.2.1)).trans hHeld.2.1, (((Below.refl W.heap.size W).alloc (Nat.le_refl _) _).cell (p := ⟨A + 1, 0, none⟩) (lt_of_cell hHeld.2.2.1)).trans hHeld.2.2.1, (((Below.refl W.heap.size W).alloc (Nat.le_refl _) _).cell (p := ⟨A + 1, 1, none⟩) (lt_of_cell hHeld.2.2.2)).trans hHeld.2.2.2⟩ (fun hHeld => st1_3 p1 W.heap.size _ (HB'.out.alloc HB'.out.size _) ((Below.heap_alloc _ _ _ (lt_of_heap Hp1)).trans Hp1) (heap_alloc_new W _) Gp1 HB'.out.size (fun e => Nat.lt_irrefl _ (e ▸ lt_of_heap Hp1)) hHeld)
  have st1_2 : ∀ (p2 : Nat) (W : World), Below w1.heap.size w1 W → W.heap[p2]? = some (.cells #[.int .i64 0, .int .i64 0] 63 (0, 0)) → w1.heap.size ≤ p2 → (W.cell? ⟨A, 0, none⟩ = some (.int .i64 x) ∧ W.cell? ⟨A, 1, none⟩ = some (.int .i64 y) ∧ W.cell? ⟨A + 1, 0, none⟩ = some (.int .i64 z) ∧ W.cell? ⟨A + 1, 1, none⟩ = some (.int .i64 u)) → wpAnyH Try.prog .any ops Q (fun W => W.cell? ⟨A, 0, none⟩ = some (.int .i64 x) ∧ W.cell? ⟨A, 1, none⟩ = some (.int .i64 y) ∧ W.cell? ⟨A + 1, 0, none⟩ = some (.int .i64 z) ∧ W.cell? ⟨A + 1, 1, none⟩ = some (.int .i64 u)) 4 #[true, true, true, false, false, true, false, false] ⟨#[x0, x1, x2, .pointer (some ⟨A, 0, none⟩), .pointer (some ⟨A + 1, 0, none⟩), x5, x6, x7, .pointer (some ⟨p2, 0, none⟩), x9, x10, x11, x12, x13, x14, x15, .agg #[.int .i64 x, .int .i64 y], .agg #[.int .i64 a, .int .i64 b], .agg #[.int .i64 z, .int .i64 u], x19, x20, x21, x22, x23, x24, x25, x26, x27, x28, x29, x30, x31, x32, x33, x34, x35, x36, x37, x38, x39, x40, x41, x42, x43, x44, x45, x46, x47, x48, x49, x50, x51, x52, x53, x54, x55, x56, x57, x58, x59, x60, x61, x62, x63, x64, x65, x66, x67, x68, x69, x70, x71, x72, x73, x74, x75, x76, x77, x78, x79, x80, x81, x82, x83, x84, x85, x86, x87, x88, x89, x90, x91, x92, x93, x94, x95, x96, x97, x98, x99, x100, x101, x102, x103, x104, x105, x106, x107, x108, x109, x110, x111, x112, x113, x114, x115, x116, x117, x118, x119, x120, x121], []⟩ W := by
    intro p2 W HB Hp2 Gp2 hHeld
    have HB' : Hid (Below w1.heap.size w1 W) := HB
    subst hops
    refine wpAnyH_ready (rs := [3, 4]) (by kernel_rfl) (by simp) ?_
    refine AllReadyH.cons rfl (fun K hK => ?_) ?_
    · go_simp
      go_wp2_with fail
      refine (HM2 _).mono ?_
      rintro r wn ⟨rfl, hbn⟩
      exact hK.out _ _ ⟨(hbn.cell (p := ⟨A, 0, none⟩) (lt_of_cell hHeld.1)).trans hHeld.1, (hbn.cell (p := ⟨A, 1, none⟩) (lt_of_cell hHeld.2.1)).trans hHeld.2.1, (hbn.cell (p := ⟨A + 1, 0, none⟩) (lt_of_cell hHeld.2.2.1)).trans hHeld.2.2.1, (hbn.cell (p := ⟨A + 1, 1, none⟩) (lt_of_cell hHeld.2.2.2)).trans hHeld.2.2.2⟩ (fun hHeld => st2_2 p2 wn (HB'.out.trans (hbn.mono HB'.out.size)) ((hbn.block _ (lt_of_heap Hp2)).trans Hp2) Gp2  hHeld)
    refine AllReadyH.cons rfl (fun K hK => ?_) AllReadyH.nil
    go_simp
    try go_wp2_with fail
    exact hK.out _ _ ⟨(((Below.refl W.heap.size W).alloc (Nat.le_refl _) _).cell (p := ⟨A, 0, none⟩) (lt_of_cell hHeld.1)).trans hHeld.1, (((Below.refl W.heap.size W).alloc (Nat.le_refl _) _).cell (p := ⟨A, 1, none⟩) (lt_of_cell hHeld.2.1)).trans hHeld.2.1, (((Below.refl W.heap.size W).alloc (Nat.le_refl _) _).cell (p := ⟨A + 1, 0, none⟩) (lt_of_cell hHeld.2.2.1)).trans hHeld.2.2.1, (((Below.refl W.heap.size W).alloc (Nat.le_refl _) _).cell (p := ⟨A + 1, 1, none⟩) (lt_of_cell hHeld.2.2.2)).trans hHeld.2.2.2⟩ (fun hHeld => st1_3 W.heap.size p2 _ (HB'.out.alloc HB'.out.size _) (heap_alloc_new W _) ((Below.heap_alloc _ _ _ (lt_of_heap Hp2)).trans Hp2) HB'.out.size Gp2 (fun e => Nat.lt_irrefl _ (e ▸ lt_of_heap Hp2)) hHeld)
  have st1_0 : ∀ (W : World), Below w1.heap.size w1 W → (W.cell? ⟨A, 0, none⟩ = some (.int .i64 x) ∧ W.cell? ⟨A, 1, none⟩ = some (.int .i64 y) ∧ W.cell? ⟨A + 1, 0, none⟩ = some (.int .i64 z) ∧ W.cell? ⟨A + 1, 1, none⟩ = some (.int .i64 u)) → wpAnyH Try.prog .any ops Q (fun W => W.cell? ⟨A, 0, none⟩ = some (.int .i64 x) ∧ W.cell? ⟨A, 1, none⟩ = some (.int .i64 y) ∧ W.cell? ⟨A + 1, 0, none⟩ = some (.int .i64 z) ∧ W.cell? ⟨A + 1, 1, none⟩ = some (.int .i64 u)) 5 #[true, true, true, false, false, false, false, false] ⟨#[x0, x1, x2, .pointer (some ⟨A, 0, none⟩), .pointer (some ⟨A + 1, 0, none⟩), x5, x6, x7, x8, x9, x10, x11, x12, x13, x14, x15, .agg #[.int .i64 x, .int .i64 y], .agg #[.int .i64 a, .int .i64 b], .agg #[.int .i64 z, .int .i64 u], x19, x20, x21, x22, x23, x24, x25, x26, x27, x28, x29, x30, x31, x32, x33, x34, x35, x36, x37, x38, x39, x40, x41, x42, x43, x44, x45, x46, x47, x48, x49, x50, x51, x52, x53, x54, x55, x56, x57, x58, x59, x60, x61, x62, x63, x64, x65, x66, x67, x68, x69, x70, x71, x72, x73, x74, x75, x76, x77, x78, x79, x80, x81, x82, x83, x84, x85, x86, x87, x88, x89, x90, x91, x92, x93, x94, x95, x96, x97, x98, x99, x100, x101, x102, x103, x104, x105, x106, x107, x108, x109, x110, x111, x112, x113, x114, x115, x116, x117, x118, x119, x120, x121], []⟩ W := by
    intro  W HB hHeld
    have HB' : Hid (Below w1.heap.size w1 W) := HB
    subst hops
    refine wpAnyH_ready (rs := [3, 4, 5]) (by kernel_rfl) (by simp) ?_
    refine AllReadyH.cons rfl (fun K hK => ?_) ?_
    · go_simp
      go_wp2_with fail
      refine (HM2 _).mono ?_
      rintro r wn ⟨rfl, hbn⟩
      exact hK.out _ _ ⟨(hbn.cell (p := ⟨A, 0, none⟩) (lt_of_cell hHeld.1)).trans hHeld.1, (hbn.cell (p := ⟨A, 1, none⟩) (lt_of_cell hHeld.2.1)).trans hHeld.2.1, (hbn.cell (p := ⟨A + 1, 0, none⟩) (lt_of_cell hHeld.2.2.1)).trans hHeld.2.2.1, (hbn.cell (p := ⟨A + 1, 1, none⟩) (lt_of_cell hHeld.2.2.2)).trans hHeld.2.2.2⟩ (fun hHeld => st2_0  wn (HB'.out.trans (hbn.mono HB'.out.size))    hHeld)
    refine AllReadyH.cons rfl (fun K hK => ?_) ?_
    · go_simp
      try go_wp2_with fail
      exact hK.out _ _ ⟨(((Below.refl W.heap.size W).alloc (Nat.le_refl _) _).cell (p := ⟨A, 0, none⟩) (lt_of_cell hHeld.1)).trans hHeld.1, (((Below.refl W.heap.size W).alloc (Nat.le_refl _) _).cell (p := ⟨A, 1, none⟩) (lt_of_cell hHeld.2.1)).trans hHeld.2.1, (((Below.refl W.heap.size W).alloc (Nat.le_refl _) _).cell (p := ⟨A + 1, 0, none⟩) (lt_of_cell hHeld.2.2.1)).trans hHeld.2.2.1, (((Below.refl W.heap.size W).alloc (Nat.le_refl _) _).cell (p := ⟨A + 1, 1, none⟩) (lt_of_cell hHeld.2.2.2)).trans hHeld.2.2.2⟩ (fun hHeld => st1_1 W.heap.size _ (HB'.out.alloc HB'.out.size _) (heap_alloc_new W _) HB'.out.size  hHeld)
    refine AllReadyH.cons rfl (fun K hK => ?_) AllReadyH.nil
    go_simp
    try go_wp2_with fail
    exact hK.out _ _ ⟨(((Below.refl W.heap.size W).alloc (Nat.le_refl _) _).cell (p := ⟨A, 0, none⟩) (lt_of_cell hHeld.1)).trans hHeld.1, (((Below.refl W.heap.size W).alloc (Nat.le_refl _) _).cell (p := ⟨A, 1, none⟩) (lt_of_cell hHeld.2.1)).trans hHeld.2.1, (((Below.refl W.heap.size W).alloc (Nat.le_refl _) _).cell (p := ⟨A + 1, 0, none⟩) (lt_of_cell hHeld.2.2.1)).trans hHeld.2.2.1, (((Below.refl W.heap.size W).alloc (Nat.le_refl _) _).cell (p := ⟨A + 1, 1, none⟩) (lt_of_cell hHeld.2.2.2)).trans hHeld.2.2.2⟩ (fun hHeld => st1_2 W.heap.size _ (HB'.out.alloc HB'.out.size _) (heap_alloc_new W _) HB'.out.size  hHeld)
  have st0_3 : ∀ (p1 p2 : Nat) (W : World), Below w1.heap.size w1 W → W.heap[p1]? = some (.cells #[.int .i64 0, .int .i64 0] 63 (0, 0)) → W.heap[p2]? = some (.cells #[.int .i64 0, .int .i64 0] 63 (0, 0)) → w1.heap.size ≤ p1 → w1.heap.size ≤ p2 → p1 ≠ p2 → (W.cell? ⟨A, 0, none⟩ = some (.int .i64 x) ∧ W.cell? ⟨A, 1, none⟩ = some (.int .i64 y) ∧ W.cell? ⟨A + 1, 0, none⟩ = some (.int .i64 z) ∧ W.cell? ⟨A + 1, 1, none⟩ = some (.int .i64 u)) → wpAnyH Try.prog .any ops Q (fun W => W.cell? ⟨A, 0, none⟩ = some (.int .i64 x) ∧ W.cell? ⟨A, 1, none⟩ = some (.int .i64 y) ∧ W.cell? ⟨A + 1, 0, none⟩ = some (.int .i64 z) ∧ W.cell? ⟨A + 1, 1, none⟩ = some (.int .i64 u)) 4 #[true, false, true, false, true, true, false, false] ⟨#[x0, x1, x2, .pointer (some ⟨A, 0, none⟩), .pointer (some ⟨A + 1, 0, none⟩), x5, x6, .pointer (some ⟨p1, 0, none⟩), .pointer (some ⟨p2, 0, none⟩), x9, x10, x11, x12, x13, x14, x15, .agg #[.int .i64 x, .int .i64 y], x17, .agg #[.int .i64 z, .int .i64 u], x19, x20, x21, x22, x23, x24, x25, x26, x27, x28, x29, x30, x31, x32, x33, x34, x35, x36, x37, x38, x39, x40, x41, x42, x43, x44, x45, x46, x47, x48, x49, x50, x51, x52, x53, x54, x55, x56, x57, x58, x59, x60, x61, x62, x63, x64, x65, x66, x67, x68, x69, x70, x71, x72, x73, x74, x75, x76, x77, x78, x79, x80, x81, x82, x83, x84, x85, x86, x87, x88, x89, x90, x91, x92, x93, x94, x95, x96, x97, x98, x99, x100, x101, x102, x103, x104, x105, x106, x107, x108, x109, x110, x111, x112, x113, x114, x115, x116, x117, x118, x119, x120, x121], []⟩ W := by
    intro p1 p2 W HB Hp1 Hp2 Gp1 Gp2 Dp1p2 hHeld
    have HB' : Hid (Below w1.heap.size w1 W) := HB
    subst hops
    refine wpAnyH_ready (rs := [1]) (by kernel_rfl) (by simp) ?_
    refine AllReadyH.cons rfl (fun K hK => ?_) AllReadyH.nil
    go_simp
    go_wp2_with fail
    refine (HM1 _).mono ?_
    rintro r wn ⟨rfl, hbn⟩
    exact hK.out _ _ ⟨(hbn.cell (p := ⟨A, 0, none⟩) (lt_of_cell hHeld.1)).trans hHeld.1, (hbn.cell (p := ⟨A, 1, none⟩) (lt_of_cell hHeld.2.1)).trans hHeld.2.1, (hbn.cell (p := ⟨A + 1, 0, none⟩) (lt_of_cell hHeld.2.2.1)).trans hHeld.2.2.1, (hbn.cell (p := ⟨A + 1, 1, none⟩) (lt_of_cell hHeld.2.2.2)).trans hHeld.2.2.2⟩ (fun hHeld => st1_3 p1 p2 wn (HB'.out.trans (hbn.mono HB'.out.size)) ((hbn.block _ (lt_of_heap Hp1)).trans Hp1) ((hbn.block _ (lt_of_heap Hp2)).trans Hp2) Gp1 Gp2 Dp1p2 hHeld)
  have st0_1 : ∀ (p1 : Nat) (W : World), Below w1.heap.size w1 W → W.heap[p1]? = some (.cells #[.int .i64 0, .int .i64 0] 63 (0, 0)) → w1.heap.size ≤ p1 → (W.cell? ⟨A, 0, none⟩ = some (.int .i64 x) ∧ W.cell? ⟨A, 1, none⟩ = some (.int .i64 y) ∧ W.cell? ⟨A + 1, 0, none⟩ = some (.int .i64 z) ∧ W.cell? ⟨A + 1, 1, none⟩ = some (.int .i64 u)) → wpAnyH Try.prog .any ops Q (fun W => W.cell? ⟨A, 0, none⟩ = some (.int .i64 x) ∧ W.cell? ⟨A, 1, none⟩ = some (.int .i64 y) ∧ W.cell? ⟨A + 1, 0, none⟩ = some (.int .i64 z) ∧ W.cell? ⟨A + 1, 1, none⟩ = some (.int .i64 u)) 5 #[true, false, true, false, true, false, false, false] ⟨#[x0, x1, x2, .pointer (some ⟨A, 0, none⟩), .pointer (some ⟨A + 1, 0, none⟩), x5, x6, .pointer (some ⟨p1, 0, none⟩), x8, x9, x10, x11, x12, x13, x14, x15, .agg #[.int .i64 x, .int .i64 y], x17, .agg #[.int .i64 z, .int .i64 u], x19, x20, x21, x22, x23, x24, x25, x26, x27, x28, x29, x30, x31, x32, x33, x34, x35, x36, x37, x38, x39, x40, x41, x42, x43, x44, x45, x46, x47, x48, x49, x50, x51, x52, x53, x54, x55, x56, x57, x58, x59, x60, x61, x62, x63, x64, x65, x66, x67, x68, x69, x70, x71, x72, x73, x74, x75, x76, x77, x78, x79, x80, x81, x82, x83, x84, x85, x86, x87, x88, x89, x90, x91, x92, x93, x94, x95, x96, x97, x98, x99, x100, x101, x102, x103, x104, x105, x106, x107, x108, x109, x110, x111, x112, x113, x114, x115, x116, x117, x118, x119, x120, x121], []⟩ W := by
    intro p1 W HB Hp1 Gp1 hHeld
    have HB' : Hid (Below w1.heap.size w1 W) := HB
    subst hops
    refine wpAnyH_ready (rs := [1, 5]) (by kernel_rfl) (by simp) ?_
    refine AllReadyH.cons rfl (fun K hK => ?_) ?_
    · go_simp
      go_wp2_with fail
      refine (HM1 _).mono ?_
      rintro r wn ⟨rfl, hbn⟩
      exact hK.out _ _ ⟨(hbn.cell (p := ⟨A, 0, none⟩) (lt_of_cell hHeld.1)).trans hHeld.1, (hbn.cell (p := ⟨A, 1, none⟩) (lt_of_cell hHeld.2.1)).trans hHeld.2.1, (hbn.cell (p := ⟨A + 1, 0, none⟩) (lt_of_cell hHeld.2.2.1)).trans hHeld.2.2.1, (hbn.cell (p := ⟨A + 1, 1, none⟩) (lt_of_cell hHeld.2.2.2)).trans hHeld.2.2.2⟩ (fun hHeld => st1_1 p1 wn (HB'.out.trans (hbn.mono HB'.out.size)) ((hbn.block _ (lt_of_heap Hp1)).trans Hp1) Gp1  hHeld)
    refine AllReadyH.cons rfl (fun K hK => ?_) AllReadyH.nil
    go_simp
    try go_wp2_with fail
    exact hK.out _ _ ⟨(((Below.refl W.heap.size W).alloc (Nat.le_refl _) _).cell (p := ⟨A, 0, none⟩) (lt_of_cell hHeld.1)).trans hHeld.1, (((Below.refl W.heap.size W).alloc (Nat.le_refl _) _).cell (p := ⟨A, 1, none⟩) (lt_of_cell hHeld.2.1)).trans hHeld.2.1, (((Below.refl W.heap.size W).alloc (Nat.le_refl _) _).cell (p := ⟨A + 1, 0, none⟩) (lt_of_cell hHeld.2.2.1)).trans hHeld.2.2.1, (((Below.refl W.heap.size W).alloc (Nat.le_refl _) _).cell (p := ⟨A + 1, 1, none⟩) (lt_of_cell hHeld.2.2.2)).trans hHeld.2.2.2⟩ (fun hHeld => st0_3 p1 W.heap.size _ (HB'.out.alloc HB'.out.size _) ((Below.heap_alloc _ _ _ (lt_of_heap Hp1)).trans Hp1) (heap_alloc_new W _) Gp1 HB'.out.size (fun e => Nat.lt_irrefl _ (e ▸ lt_of_heap Hp1)) hHeld)
  have st0_2 : ∀ (p2 : Nat) (W : World), Below w1.heap.size w1 W → W.heap[p2]? = some (.cells #[.int .i64 0, .int .i64 0] 63 (0, 0)) → w1.heap.size ≤ p2 → (W.cell? ⟨A, 0, none⟩ = some (.int .i64 x) ∧ W.cell? ⟨A, 1, none⟩ = some (.int .i64 y) ∧ W.cell? ⟨A + 1, 0, none⟩ = some (.int .i64 z) ∧ W.cell? ⟨A + 1, 1, none⟩ = some (.int .i64 u)) → wpAnyH Try.prog .any ops Q (fun W => W.cell? ⟨A, 0, none⟩ = some (.int .i64 x) ∧ W.cell? ⟨A, 1, none⟩ = some (.int .i64 y) ∧ W.cell? ⟨A + 1, 0, none⟩ = some (.int .i64 z) ∧ W.cell? ⟨A + 1, 1, none⟩ = some (.int .i64 u)) 5 #[true, false, true, false, false, true, false, false] ⟨#[x0, x1, x2, .pointer (some ⟨A, 0, none⟩), .pointer (some ⟨A + 1, 0, none⟩), x5, x6, x7, .pointer (some ⟨p2, 0, none⟩), x9, x10, x11, x12, x13, x14, x15, .agg #[.int .i64 x, .int .i64 y], x17, .agg #[.int .i64 z, .int .i64 u], x19, x20, x21, x22, x23, x24, x25, x26, x27, x28, x29, x30, x31, x32, x33, x34, x35, x36, x37, x38, x39, x40, x41, x42, x43, x44, x45, x46, x47, x48, x49, x50, x51, x52, x53, x54, x55, x56, x57, x58, x59, x60, x61, x62, x63, x64, x65, x66, x67, x68, x69, x70, x71, x72, x73, x74, x75, x76, x77, x78, x79, x80, x81, x82, x83, x84, x85, x86, x87, x88, x89, x90, x91, x92, x93, x94, x95, x96, x97, x98, x99, x100, x101, x102, x103, x104, x105, x106, x107, x108, x109, x110, x111, x112, x113, x114, x115, x116, x117, x118, x119, x120, x121], []⟩ W := by
    intro p2 W HB Hp2 Gp2 hHeld
    have HB' : Hid (Below w1.heap.size w1 W) := HB
    subst hops
    refine wpAnyH_ready (rs := [1, 4]) (by kernel_rfl) (by simp) ?_
    refine AllReadyH.cons rfl (fun K hK => ?_) ?_
    · go_simp
      go_wp2_with fail
      refine (HM1 _).mono ?_
      rintro r wn ⟨rfl, hbn⟩
      exact hK.out _ _ ⟨(hbn.cell (p := ⟨A, 0, none⟩) (lt_of_cell hHeld.1)).trans hHeld.1, (hbn.cell (p := ⟨A, 1, none⟩) (lt_of_cell hHeld.2.1)).trans hHeld.2.1, (hbn.cell (p := ⟨A + 1, 0, none⟩) (lt_of_cell hHeld.2.2.1)).trans hHeld.2.2.1, (hbn.cell (p := ⟨A + 1, 1, none⟩) (lt_of_cell hHeld.2.2.2)).trans hHeld.2.2.2⟩ (fun hHeld => st1_2 p2 wn (HB'.out.trans (hbn.mono HB'.out.size)) ((hbn.block _ (lt_of_heap Hp2)).trans Hp2) Gp2  hHeld)
    refine AllReadyH.cons rfl (fun K hK => ?_) AllReadyH.nil
    go_simp
    try go_wp2_with fail
    exact hK.out _ _ ⟨(((Below.refl W.heap.size W).alloc (Nat.le_refl _) _).cell (p := ⟨A, 0, none⟩) (lt_of_cell hHeld.1)).trans hHeld.1, (((Below.refl W.heap.size W).alloc (Nat.le_refl _) _).cell (p := ⟨A, 1, none⟩) (lt_of_cell hHeld.2.1)).trans hHeld.2.1, (((Below.refl W.heap.size W).alloc (Nat.le_refl _) _).cell (p := ⟨A + 1, 0, none⟩) (lt_of_cell hHeld.2.2.1)).trans hHeld.2.2.1, (((Below.refl W.heap.size W).alloc (Nat.le_refl _) _).cell (p := ⟨A + 1, 1, none⟩) (lt_of_cell hHeld.2.2.2)).trans hHeld.2.2.2⟩ (fun hHeld => st0_3 W.heap.size p2 _ (HB'.out.alloc HB'.out.size _) (heap_alloc_new W _) ((Below.heap_alloc _ _ _ (lt_of_heap Hp2)).trans Hp2) HB'.out.size Gp2 (fun e => Nat.lt_irrefl _ (e ▸ lt_of_heap Hp2)) hHeld)
  have st0_0 : ∀ (W : World), Below w1.heap.size w1 W → (W.cell? ⟨A, 0, none⟩ = some (.int .i64 x) ∧ W.cell? ⟨A, 1, none⟩ = some (.int .i64 y) ∧ W.cell? ⟨A + 1, 0, none⟩ = some (.int .i64 z) ∧ W.cell? ⟨A + 1, 1, none⟩ = some (.int .i64 u)) → wpAnyH Try.prog .any ops Q (fun W => W.cell? ⟨A, 0, none⟩ = some (.int .i64 x) ∧ W.cell? ⟨A, 1, none⟩ = some (.int .i64 y) ∧ W.cell? ⟨A + 1, 0, none⟩ = some (.int .i64 z) ∧ W.cell? ⟨A + 1, 1, none⟩ = some (.int .i64 u)) 6 #[true, false, true, false, false, false, false, false] ⟨#[x0, x1, x2, .pointer (some ⟨A, 0, none⟩), .pointer (some ⟨A + 1, 0, none⟩), x5, x6, x7, x8, x9, x10, x11, x12, x13, x14, x15, .agg #[.int .i64 x, .int .i64 y], x17, .agg #[.int .i64 z, .int .i64 u], x19, x20, x21, x22, x23, x24, x25, x26, x27, x28, x29, x30, x31, x32, x33, x34, x35, x36, x37, x38, x39, x40, x41, x42, x43, x44, x45, x46, x47, x48, x49, x50, x51, x52, x53, x54, x55, x56, x57, x58, x59, x60, x61, x62, x63, x64, x65, x66, x67, x68, x69, x70, x71, x72, x73, x74, x75, x76, x77, x78, x79, x80, x81, x82, x83, x84, x85, x86, x87, x88, x89, x90, x91, x92, x93, x94, x95, x96, x97, x98, x99, x100, x101, x102, x103, x104, x105, x106, x107, x108, x109, x110, x111, x112, x113, x114, x115, x116, x117, x118, x119, x120, x121], []⟩ W := by
    intro  W HB hHeld
    have HB' : Hid (Below w1.heap.size w1 W) := HB
    subst hops
    refine wpAnyH_ready (rs := [1, 4, 5]) (by kernel_rfl) (by simp) ?_
    refine AllReadyH.cons rfl (fun K hK => ?_) ?_
    · go_simp
      go_wp2_with fail
      refine (HM1 _).mono ?_
      rintro r wn ⟨rfl, hbn⟩
      exact hK.out _ _ ⟨(hbn.cell (p := ⟨A, 0, none⟩) (lt_of_cell hHeld.1)).trans hHeld.1, (hbn.cell (p := ⟨A, 1, none⟩) (lt_of_cell hHeld.2.1)).trans hHeld.2.1, (hbn.cell (p := ⟨A + 1, 0, none⟩) (lt_of_cell hHeld.2.2.1)).trans hHeld.2.2.1, (hbn.cell (p := ⟨A + 1, 1, none⟩) (lt_of_cell hHeld.2.2.2)).trans hHeld.2.2.2⟩ (fun hHeld => st1_0  wn (HB'.out.trans (hbn.mono HB'.out.size))    hHeld)
    refine AllReadyH.cons rfl (fun K hK => ?_) ?_
    · go_simp
      try go_wp2_with fail
      exact hK.out _ _ ⟨(((Below.refl W.heap.size W).alloc (Nat.le_refl _) _).cell (p := ⟨A, 0, none⟩) (lt_of_cell hHeld.1)).trans hHeld.1, (((Below.refl W.heap.size W).alloc (Nat.le_refl _) _).cell (p := ⟨A, 1, none⟩) (lt_of_cell hHeld.2.1)).trans hHeld.2.1, (((Below.refl W.heap.size W).alloc (Nat.le_refl _) _).cell (p := ⟨A + 1, 0, none⟩) (lt_of_cell hHeld.2.2.1)).trans hHeld.2.2.1, (((Below.refl W.heap.size W).alloc (Nat.le_refl _) _).cell (p := ⟨A + 1, 1, none⟩) (lt_of_cell hHeld.2.2.2)).trans hHeld.2.2.2⟩ (fun hHeld => st0_1 W.heap.size _ (HB'.out.alloc HB'.out.size _) (heap_alloc_new W _) HB'.out.size  hHeld)
    refine AllReadyH.cons rfl (fun K hK => ?_) AllReadyH.nil
    go_simp
    try go_wp2_with fail
    exact hK.out _ _ ⟨(((Below.refl W.heap.size W).alloc (Nat.le_refl _) _).cell (p := ⟨A, 0, none⟩) (lt_of_cell hHeld.1)).trans hHeld.1, (((Below.refl W.heap.size W).alloc (Nat.le_refl _) _).cell (p := ⟨A, 1, none⟩) (lt_of_cell hHeld.2.1)).trans hHeld.2.1, (((Below.refl W.heap.size W).alloc (Nat.le_refl _) _).cell (p := ⟨A + 1, 0, none⟩) (lt_of_cell hHeld.2.2.1)).trans hHeld.2.2.1, (((Below.refl W.heap.size W).alloc (Nat.le_refl _) _).cell (p := ⟨A + 1, 1, none⟩) (lt_of_cell hHeld.2.2.2)).trans hHeld.2.2.2⟩ (fun hHeld => st0_2 W.heap.size _ (HB'.out.alloc HB'.out.size _) (heap_alloc_new W _) HB'.out.size  hHeld)
  refine wp_region_held_drew (S := fun W => W.cell? ⟨A, 0, none⟩ = some (.int .i64 x) ∧ W.cell? ⟨A, 1, none⟩ = some (.int .i64 y) ∧ W.cell? ⟨A + 1, 0, none⟩ = some (.int .i64 z) ∧ W.cell? ⟨A + 1, 1, none⟩ = some (.int .i64 u)) (by kernel_rfl) (by exact ⟨cell_of_heap hA1 0 _ rfl, cell_of_heap hA1 1 _ rfl, cell_of_heap hA2 0 _ rfl, cell_of_heap hA2 1 _ rfl⟩) (fun hHeld => ?_)
  rw [hops]
  change wpAnyH _ _ _ _ _ 8 (Array.replicate 8 false) _ _
  refine wpAnyH_take (i := 0) (oi := _) (v := _) (by simp only [List.getElem?_toArray, List.getElem?_cons_zero]; rfl) (by kernel_rfl) (by kernel_rfl) (by kernel_rfl) (by exact fun _ _ _ h => hQp _ _ _ _ _ h) (Or.inl ⟨by rfl, by intro w' hSw; (try dsimp only at hSw); first | (go_simp; done) | (go_simp; with_reducible rfl)⟩) hHeld ?_
  simp only [Act.put, List.setIfInBounds_toArray, List.set_cons_zero, List.set_cons_succ]
  refine wpAnyH_take (i := 2) (oi := _) (v := _) (by simp only [List.getElem?_toArray, List.getElem?_cons_succ, List.getElem?_cons_zero]; rfl) (by kernel_rfl) (by kernel_rfl) (by kernel_rfl) (by exact fun _ _ _ h => hQp _ _ _ _ _ h) (Or.inl ⟨by rfl, by intro w' hSw; (try dsimp only at hSw); first | (go_simp; done) | (go_simp; with_reducible rfl)⟩) hHeld ?_
  simp only [Act.put, List.setIfInBounds_toArray, List.set_cons_zero, List.set_cons_succ]
  rw [← hops]
  exact st0_0 _ (Below.refl _ _).drew hHeld


def has_reg10_ops : Array Oper := #[{ dst := some 40, op := Op.indexAddr 61 (Operand.tmp 5) (Operand.const (Value.int IntKind.i64 0)), type := 0, pos := "law.go:39", after := #[], guard := none }, { dst := some 41, op := Op.load 3 (Operand.tmp 40), type := 3, pos := "law.go:39", after := #[{ on := 0, ground := Ground.data }], guard := none }, { dst := some 42, op := Op.call { callee := Callee.value (Operand.func 25), args := #[Operand.tmp 41], argTypes := #[3] }, type := 3, pos := "law.go:39", after := #[{ on := 1, ground := Ground.data }], guard := none }, { dst := some 43, op := Op.move (Operand.tmp 13), type := 66, pos := "law.go:39", after := #[], guard := none }, { dst := some 44, op := Op.indexAddr 61 (Operand.tmp 5) (Operand.const (Value.int IntKind.i64 0)), type := 0, pos := "law.go:39", after := #[], guard := none }, { dst := some 45, op := Op.load 3 (Operand.tmp 44), type := 3, pos := "law.go:39", after := #[{ on := 4, ground := Ground.data }], guard := none }, { dst := some 46, op := Op.call { callee := Callee.value (Operand.tmp 43), args := #[Operand.tmp 45], argTypes := #[3] }, type := 3, pos := "law.go:39", after := #[{ on := 3, ground := Ground.data }, { on := 5, ground := Ground.data }, { on := 2, ground := Ground.chain }], guard := none }, { dst := some 47, op := Op.binOp BinOp.neq 3 (Operand.tmp 42) (Operand.tmp 46) 3, type := 4, pos := "law.go:39", after := #[{ on := 2, ground := Ground.data }, { on := 6, ground := Ground.data }], guard := none }, { dst := some 48, op := Op.move (Operand.tmp 47), type := 4, pos := "law.go:39", after := #[{ on := 7, ground := Ground.data }, { on := 6, ground := Ground.chain }], guard := none }, { dst := some 49, op := Op.call { callee := Callee.value (Operand.func 26), args := #[], argTypes := #[] }, type := 63, pos := "law.go:39", after := #[{ on := 8, ground := Ground.chain }, { on := 8, ground := Ground.guard }], guard := some (8, false) }, { dst := some 50, op := Op.move (Operand.tmp 9), type := 3, pos := "law.go:39", after := #[{ on := 8, ground := Ground.guard }], guard := some (8, false) }, { dst := some 51, op := Op.call { callee := Callee.value (Operand.func 27), args := #[Operand.tmp 49, Operand.tmp 50], argTypes := #[63, 3] }, type := 4, pos := "law.go:39", after := #[{ on := 9, ground := Ground.data }, { on := 10, ground := Ground.data }, { on := 9, ground := Ground.chain }, { on := 8, ground := Ground.guard }], guard := some (8, false) }, { dst := some 52, op := Op.unOp UnOp.not 4 (Operand.tmp 51), type := 4, pos := "law.go:39", after := #[{ on := 11, ground := Ground.data }, { on := 8, ground := Ground.guard }], guard := some (8, false) }, { dst := some 53, op := Op.pick (Operand.tmp 48) (Operand.const (Value.bool true)) (Operand.tmp 52), type := 4, pos := "law.go:39", after := #[{ on := 8, ground := Ground.data }, { on := 12, ground := Ground.data }], guard := none }, { dst := some 54, op := Op.move (Operand.tmp 53), type := 4, pos := "law.go:39", after := #[{ on := 13, ground := Ground.data }, { on := 11, ground := Ground.chain }], guard := none }, { dst := some 55, op := Op.move (Operand.tmp 9), type := 3, pos := "law.go:39", after := #[{ on := 14, ground := Ground.guard }], guard := some (14, false) }, { dst := some 56, op := Op.call { callee := Callee.value (Operand.func 28), args := #[Operand.tmp 55], argTypes := #[3] }, type := 63, pos := "law.go:39", after := #[{ on := 15, ground := Ground.data }, { on := 14, ground := Ground.chain }, { on := 14, ground := Ground.guard }], guard := some (14, false) }, { dst := some 57, op := Op.move (Operand.tmp 9), type := 3, pos := "law.go:39", after := #[{ on := 14, ground := Ground.guard }], guard := some (14, false) }, { dst := some 58, op := Op.call { callee := Callee.value (Operand.func 27), args := #[Operand.tmp 56, Operand.tmp 57], argTypes := #[63, 3] }, type := 4, pos := "law.go:39", after := #[{ on := 16, ground := Ground.data }, { on := 17, ground := Ground.data }, { on := 16, ground := Ground.chain }, { on := 14, ground := Ground.guard }], guard := some (14, false) }, { dst := some 59, op := Op.unOp UnOp.not 4 (Operand.tmp 58), type := 4, pos := "law.go:39", after := #[{ on := 18, ground := Ground.data }, { on := 14, ground := Ground.guard }], guard := some (14, false) }, { dst := some 60, op := Op.pick (Operand.tmp 54) (Operand.const (Value.bool true)) (Operand.tmp 59), type := 4, pos := "law.go:39", after := #[{ on := 14, ground := Ground.data }, { on := 19, ground := Ground.data }], guard := none }, { dst := some 61, op := Op.move (Operand.tmp 60), type := 4, pos := "law.go:39", after := #[{ on := 20, ground := Ground.data }, { on := 18, ground := Ground.chain }], guard := none }, { dst := some 62, op := Op.load 63 (Operand.tmp 7), type := 63, pos := "law.go:39", after := #[{ on := 21, ground := Ground.guard }], guard := some (21, false) }, { dst := some 63, op := Op.move (Operand.tmp 9), type := 3, pos := "law.go:39", after := #[{ on := 21, ground := Ground.guard }], guard := some (21, false) }, { dst := some 64, op := Op.call { callee := Callee.value (Operand.func 27), args := #[Operand.tmp 62, Operand.tmp 63], argTypes := #[63, 3] }, type := 4, pos := "law.go:39", after := #[{ on := 22, ground := Ground.data }, { on := 23, ground := Ground.data }, { on := 21, ground := Ground.chain }, { on := 21, ground := Ground.guard }], guard := some (21, false) }, { dst := some 65, op := Op.unOp UnOp.not 4 (Operand.tmp 64), type := 4, pos := "law.go:39", after := #[{ on := 24, ground := Ground.data }, { on := 21, ground := Ground.guard }], guard := some (21, false) }, { dst := some 66, op := Op.pick (Operand.tmp 61) (Operand.const (Value.bool true)) (Operand.tmp 65), type := 4, pos := "law.go:39", after := #[{ on := 21, ground := Ground.data }, { on := 25, ground := Ground.data }], guard := none }, { dst := some 67, op := Op.move (Operand.tmp 66), type := 4, pos := "law.go:39", after := #[{ on := 26, ground := Ground.data }, { on := 24, ground := Ground.chain }], guard := none }, { dst := some 68, op := Op.load 63 (Operand.tmp 7), type := 63, pos := "law.go:39", after := #[{ on := 27, ground := Ground.guard }], guard := some (27, false) }, { dst := some 69, op := Op.load 63 (Operand.tmp 8), type := 63, pos := "law.go:39", after := #[{ on := 27, ground := Ground.guard }], guard := some (27, false) }, { dst := some 70, op := Op.call { callee := Callee.value (Operand.func 29), args := #[Operand.tmp 68, Operand.tmp 69], argTypes := #[63, 63] }, type := 63, pos := "law.go:39", after := #[{ on := 28, ground := Ground.data }, { on := 29, ground := Ground.data }, { on := 27, ground := Ground.chain }, { on := 27, ground := Ground.guard }], guard := some (27, false) }, { dst := some 71, op := Op.move (Operand.tmp 9), type := 3, pos := "law.go:39", after := #[{ on := 27, ground := Ground.guard }], guard := some (27, false) }, { dst := some 72, op := Op.call { callee := Callee.value (Operand.func 27), args := #[Operand.tmp 70, Operand.tmp 71], argTypes := #[63, 3] }, type := 4, pos := "law.go:39", after := #[{ on := 30, ground := Ground.data }, { on := 31, ground := Ground.data }, { on := 30, ground := Ground.chain }, { on := 27, ground := Ground.guard }], guard := some (27, false) }, { dst := some 73, op := Op.unOp UnOp.not 4 (Operand.tmp 72), type := 4, pos := "law.go:39", after := #[{ on := 32, ground := Ground.data }, { on := 27, ground := Ground.guard }], guard := some (27, false) }, { dst := some 74, op := Op.pick (Operand.tmp 67) (Operand.const (Value.bool true)) (Operand.tmp 73), type := 4, pos := "law.go:39", after := #[{ on := 27, ground := Ground.data }, { on := 33, ground := Ground.data }], guard := none }, { dst := some 75, op := Op.move (Operand.tmp 74), type := 4, pos := "law.go:39", after := #[{ on := 34, ground := Ground.data }, { on := 32, ground := Ground.chain }], guard := none }, { dst := some 76, op := Op.load 63 (Operand.tmp 7), type := 63, pos := "law.go:39", after := #[{ on := 35, ground := Ground.guard }], guard := some (35, false) }, { dst := some 77, op := Op.load 63 (Operand.tmp 8), type := 63, pos := "law.go:39", after := #[{ on := 35, ground := Ground.guard }], guard := some (35, false) }, { dst := some 78, op := Op.call { callee := Callee.value (Operand.func 29), args := #[Operand.tmp 76, Operand.tmp 77], argTypes := #[63, 63] }, type := 63, pos := "law.go:39", after := #[{ on := 36, ground := Ground.data }, { on := 37, ground := Ground.data }, { on := 35, ground := Ground.chain }, { on := 35, ground := Ground.guard }], guard := some (35, false) }, { dst := some 79, op := Op.move (Operand.tmp 10), type := 3, pos := "law.go:39", after := #[{ on := 35, ground := Ground.guard }], guard := some (35, false) }, { dst := some 80, op := Op.call { callee := Callee.value (Operand.func 27), args := #[Operand.tmp 78, Operand.tmp 79], argTypes := #[63, 3] }, type := 4, pos := "law.go:39", after := #[{ on := 38, ground := Ground.data }, { on := 39, ground := Ground.data }, { on := 38, ground := Ground.chain }, { on := 35, ground := Ground.guard }], guard := some (35, false) }, { dst := some 81, op := Op.unOp UnOp.not 4 (Operand.tmp 80), type := 4, pos := "law.go:39", after := #[{ on := 40, ground := Ground.data }, { on := 35, ground := Ground.guard }], guard := some (35, false) }, { dst := some 82, op := Op.pick (Operand.tmp 75) (Operand.const (Value.bool true)) (Operand.tmp 81), type := 4, pos := "law.go:39", after := #[{ on := 35, ground := Ground.data }, { on := 41, ground := Ground.data }], guard := none }]

theorem has_reg10 {Q : Exit → Act → World → Prop} (w w4 : World) (p7 p8 A : Nat) (a b c d X Y m mm i0 i1 i2 ci j k : Int) {x0 x1 x2 x3 x4 x6 x14 x15 x16 x17 x18 x19 x20 x21 x22 x23 x24 x25 x26 x27 x28 x29 x30 x31 x32 x33 x34 x35 x36 x37 x38 x39 x40 x41 x42 x43 x44 x45 x46 x47 x48 x49 x50 x51 x52 x53 x54 x55 x56 x57 x58 x59 x60 x61 x62 x63 x64 x65 x66 x67 x68 x69 x70 x71 x72 x73 x74 x75 x76 x77 x78 x79 x80 x81 x82 x83 x84 x85 x86 x87 x88 x89 x90 x91 x92 x93 x94 x95 x96 x97 x98 x99 x100 x101 x102 x103 x104 x105 x106 x107 x108 x109 x110 x111 x112 x113 x114 x115 x116 x117 x118 x119 x120 x121 : Value}
    (hQp : ∀ (c : List PanicEntry) (a : Act) (d : Option Tmp) (v : Value) (w : World), Q (.panic c) (a.put d v) w → Q (.panic c) a w)
    (HB4 : Hid (Below w.heap.size w w4)) (hc : w4.cell? ⟨p7, 0, none⟩ = some (.int .i64 a) ∧ w4.cell? ⟨p7, 1, none⟩ = some (.int .i64 b) ∧ w4.cell? ⟨p8, 0, none⟩ = some (.int .i64 c) ∧ w4.cell? ⟨p8, 1, none⟩ = some (.int .i64 d) ∧ w4.cell? ⟨A, 0, none⟩ = some (.int .i64 i0) ∧ w4.cell? ⟨A, 1, none⟩ = some (.int .i64 i1) ∧ w4.cell? ⟨A, 2, none⟩ = some (.int .i64 i2)) (HC1 : Hid (∀ w, Calls Try.prog 25 #[.int .i64 i0] w fun r w' => r = .returned (.int .i64 ci) ∧ w' = w)) (HC2 : Hid (∀ w, Calls Try.prog 24 #[.int .i64 i0] w fun r w' => r = .returned (.int .i64 ci) ∧ w' = w)) (HT : Hid (∀ w, Calls Try.prog 26 #[] w fun r w' => r = .returned (.agg #[.int .i64 (-1099511627776), .int .i64 1099511627776]) ∧ Below w.heap.size w w')) (HH1 : Hid (∀ w, Calls Try.prog 27 #[.agg #[.int .i64 (-1099511627776), .int .i64 1099511627776], .int .i64 X] w fun r w' => r = .returned (.bool true) ∧ Below w.heap.size w w')) (HO : Hid (∀ w, Calls Try.prog 28 #[.int .i64 X] w fun r w' => r = .returned (.agg #[.int .i64 X, .int .i64 X]) ∧ Below w.heap.size w w')) (HH2 : Hid (∀ w, Calls Try.prog 27 #[.agg #[.int .i64 X, .int .i64 X], .int .i64 X] w fun r w' => r = .returned (.bool true) ∧ Below w.heap.size w w')) (HH3 : Hid (∀ w, Calls Try.prog 27 #[.agg #[.int .i64 a, .int .i64 b], .int .i64 X] w fun r w' => r = .returned (.bool true) ∧ Below w.heap.size w w')) (HJ : Hid (∀ w, Calls Try.prog 29 #[.agg #[.int .i64 a, .int .i64 b], .agg #[.int .i64 c, .int .i64 d]] w fun r w' => r = .returned (.agg #[.int .i64 j, .int .i64 k]) ∧ Below w.heap.size w w')) (HH4 : Hid (∀ w, Calls Try.prog 27 #[.agg #[.int .i64 j, .int .i64 k], .int .i64 X] w fun r w' => r = .returned (.bool true) ∧ Below w.heap.size w w')) (HH5 : Hid (∀ w, Calls Try.prog 27 #[.agg #[.int .i64 j, .int .i64 k], .int .i64 Y] w fun r w' => r = .returned (.bool true) ∧ Below w.heap.size w w'))
    (hfin : ∀ {y0 y1 y2 y3 y4 y6 y14 y15 y16 y17 y18 y19 y20 y21 y22 y23 y24 y25 y26 y27 y28 y29 y30 y31 y32 y33 y34 y35 y36 y37 y38 y39 y40 y41 y42 y43 y44 y45 y46 y47 y48 y49 y50 y51 y52 y53 y54 y55 y56 y57 y58 y59 y60 y61 y62 y63 y64 y65 y66 y67 y68 y69 y70 y71 y72 y73 y74 y75 y76 y77 y78 y79 y80 y81 y83 y84 y85 y86 y87 y88 y89 y90 y91 y92 y93 y94 y95 y96 y97 y98 y99 y100 y101 y102 y103 y104 y105 y106 y107 y108 y109 y110 y111 y112 y113 y114 y115 y116 y117 y118 y119 y120 y121 : Value} (W : World), Below w.heap.size w W → (W.cell? ⟨p7, 0, none⟩ = some (.int .i64 a) ∧ W.cell? ⟨p7, 1, none⟩ = some (.int .i64 b) ∧ W.cell? ⟨p8, 0, none⟩ = some (.int .i64 c) ∧ W.cell? ⟨p8, 1, none⟩ = some (.int .i64 d) ∧ W.cell? ⟨A, 0, none⟩ = some (.int .i64 i0) ∧ W.cell? ⟨A, 1, none⟩ = some (.int .i64 i1) ∧ W.cell? ⟨A, 2, none⟩ = some (.int .i64 i2)) → Q .normal ⟨#[y0, y1, y2, y3, y4, .pointer (some ⟨A, 0, none⟩), y6, .pointer (some ⟨p7, 0, none⟩), .pointer (some ⟨p8, 0, none⟩), .int .i64 X, .int .i64 Y, .int .i64 m, .int .i64 mm, .func (.func 24) #[] #[], y14, y15, y16, y17, y18, y19, y20, y21, y22, y23, y24, y25, y26, y27, y28, y29, y30, y31, y32, y33, y34, y35, y36, y37, y38, y39, y40, y41, y42, y43, y44, y45, y46, y47, y48, y49, y50, y51, y52, y53, y54, y55, y56, y57, y58, y59, y60, y61, y62, y63, y64, y65, y66, y67, y68, y69, y70, y71, y72, y73, y74, y75, y76, y77, y78, y79, y80, y81, .bool false, y83, y84, y85, y86, y87, y88, y89, y90, y91, y92, y93, y94, y95, y96, y97, y98, y99, y100, y101, y102, y103, y104, y105, y106, y107, y108, y109, y110, y111, y112, y113, y114, y115, y116, y117, y118, y119, y120, y121], []⟩ W) :
    (Code.region 10 has_reg10_ops true).wp Try.prog Q ⟨#[x0, x1, x2, x3, x4, .pointer (some ⟨A, 0, none⟩), x6, .pointer (some ⟨p7, 0, none⟩), .pointer (some ⟨p8, 0, none⟩), .int .i64 X, .int .i64 Y, .int .i64 m, .int .i64 mm, .func (.func 24) #[] #[], x14, x15, x16, x17, x18, x19, x20, x21, x22, x23, x24, x25, x26, x27, x28, x29, x30, x31, x32, x33, x34, x35, x36, x37, x38, x39, x40, x41, x42, x43, x44, x45, x46, x47, x48, x49, x50, x51, x52, x53, x54, x55, x56, x57, x58, x59, x60, x61, x62, x63, x64, x65, x66, x67, x68, x69, x70, x71, x72, x73, x74, x75, x76, x77, x78, x79, x80, x81, x82, x83, x84, x85, x86, x87, x88, x89, x90, x91, x92, x93, x94, x95, x96, x97, x98, x99, x100, x101, x102, x103, x104, x105, x106, x107, x108, x109, x110, x111, x112, x113, x114, x115, x116, x117, x118, x119, x120, x121], []⟩ w4 := by
  refine wp_region_held_drew (S := fun W => W.cell? ⟨p7, 0, none⟩ = some (.int .i64 a) ∧ W.cell? ⟨p7, 1, none⟩ = some (.int .i64 b) ∧ W.cell? ⟨p8, 0, none⟩ = some (.int .i64 c) ∧ W.cell? ⟨p8, 1, none⟩ = some (.int .i64 d) ∧ W.cell? ⟨A, 0, none⟩ = some (.int .i64 i0) ∧ W.cell? ⟨A, 1, none⟩ = some (.int .i64 i1) ∧ W.cell? ⟨A, 2, none⟩ = some (.int .i64 i2)) (by as_aux_lemma => kernel_rfl) (by exact hc) (fun hHeld => ?_)
  change wpAnyH _ _ _ _ _ 43 (Array.replicate 43 false) _ _
  refine wpAnyH_take (i := 0) (oi := { dst := some 40, op := Op.indexAddr 61 (Operand.tmp 5) (Operand.const (Value.int IntKind.i64 0)), type := 0, pos := "law.go:39", after := #[], guard := none }) (v := _) (by as_aux_lemma => kernel_rfl) (by as_aux_lemma => kernel_rfl) (by as_aux_lemma => kernel_rfl) (by as_aux_lemma => kernel_rfl) (by exact fun _ _ _ h => hQp _ _ _ _ _ h) (Or.inl ⟨by as_aux_lemma => kernel_rfl, by intro w' hSw; (try dsimp only at hSw); first | (go_simp; done) | (go_simp; with_reducible rfl)⟩) hHeld ?_
  simp only [Act.put, List.setIfInBounds_toArray, List.set_cons_zero, List.set_cons_succ]
  refine wpAnyH_take (i := 1) (oi := { dst := some 41, op := Op.load 3 (Operand.tmp 40), type := 3, pos := "law.go:39", after := #[{ on := 0, ground := Ground.data }], guard := none }) (v := _) (by as_aux_lemma => kernel_rfl) (by as_aux_lemma => kernel_rfl) (by as_aux_lemma => kernel_rfl) (by as_aux_lemma => kernel_rfl) (by exact fun _ _ _ h => hQp _ _ _ _ _ h) (Or.inl ⟨by as_aux_lemma => kernel_rfl, by intro w' hSw; (try dsimp only at hSw); first | (go_simp; done) | (go_simp; with_reducible rfl)⟩) hHeld ?_
  simp only [Act.put, List.setIfInBounds_toArray, List.set_cons_zero, List.set_cons_succ]
  refine wpAnyH_take (i := 3) (oi := { dst := some 43, op := Op.move (Operand.tmp 13), type := 66, pos := "law.go:39", after := #[], guard := none }) (v := _) (by as_aux_lemma => kernel_rfl) (by as_aux_lemma => kernel_rfl) (by as_aux_lemma => kernel_rfl) (by as_aux_lemma => kernel_rfl) (by exact fun _ _ _ h => hQp _ _ _ _ _ h) (Or.inl ⟨by as_aux_lemma => kernel_rfl, by intro w' hSw; (try dsimp only at hSw); first | (go_simp; done) | (go_simp; with_reducible rfl)⟩) hHeld ?_
  simp only [Act.put, List.setIfInBounds_toArray, List.set_cons_zero, List.set_cons_succ]
  refine wpAnyH_take (i := 4) (oi := { dst := some 44, op := Op.indexAddr 61 (Operand.tmp 5) (Operand.const (Value.int IntKind.i64 0)), type := 0, pos := "law.go:39", after := #[], guard := none }) (v := _) (by as_aux_lemma => kernel_rfl) (by as_aux_lemma => kernel_rfl) (by as_aux_lemma => kernel_rfl) (by as_aux_lemma => kernel_rfl) (by exact fun _ _ _ h => hQp _ _ _ _ _ h) (Or.inl ⟨by as_aux_lemma => kernel_rfl, by intro w' hSw; (try dsimp only at hSw); first | (go_simp; done) | (go_simp; with_reducible rfl)⟩) hHeld ?_
  simp only [Act.put, List.setIfInBounds_toArray, List.set_cons_zero, List.set_cons_succ]
  refine wpAnyH_take (i := 5) (oi := { dst := some 45, op := Op.load 3 (Operand.tmp 44), type := 3, pos := "law.go:39", after := #[{ on := 4, ground := Ground.data }], guard := none }) (v := _) (by as_aux_lemma => kernel_rfl) (by as_aux_lemma => kernel_rfl) (by as_aux_lemma => kernel_rfl) (by as_aux_lemma => kernel_rfl) (by exact fun _ _ _ h => hQp _ _ _ _ _ h) (Or.inl ⟨by as_aux_lemma => kernel_rfl, by intro w' hSw; (try dsimp only at hSw); first | (go_simp; done) | (go_simp; with_reducible rfl)⟩) hHeld ?_
  simp only [Act.put, List.setIfInBounds_toArray, List.set_cons_zero, List.set_cons_succ]
  refine wpAnyH_ready (rs := [2]) (by as_aux_lemma => kernel_rfl) (by simp) ?_
  refine AllReadyH.cons (o := { dst := some 42, op := Op.call { callee := Callee.value (Operand.func 25), args := #[Operand.tmp 41], argTypes := #[3] }, type := 3, pos := "law.go:39", after := #[{ on := 1, ground := Ground.data }], guard := none }) (by as_aux_lemma => kernel_rfl) (fun K hK => ?_) AllReadyH.nil
  refine ite_want (by as_aux_lemma => kernel_rfl) ?_
  go_simp
  go_wp2_with fail
  refine (HC1.out _).mono ?_
  rintro r w5 ⟨rfl, hw5⟩
  have HB5 : Hid (Below w.heap.size w w5) := by rw [hw5]; first | exact HB4.out.drew | exact HB4.out
  refine hK.out _ _ (by rw [hw5]; exact hHeld) (fun hHeld => ?_)
  clear hK K hw5
  as_aux_lemma =>
    refine wpAnyH_ready (rs := [6]) (by as_aux_lemma => kernel_rfl) (by simp) ?_
    refine AllReadyH.cons (o := { dst := some 46, op := Op.call { callee := Callee.value (Operand.tmp 43), args := #[Operand.tmp 45], argTypes := #[3] }, type := 3, pos := "law.go:39", after := #[{ on := 3, ground := Ground.data }, { on := 5, ground := Ground.data }, { on := 2, ground := Ground.chain }], guard := none }) (by as_aux_lemma => kernel_rfl) (fun K hK => ?_) AllReadyH.nil
    refine ite_want (by as_aux_lemma => kernel_rfl) ?_
    go_simp
    go_wp2_with fail
    refine (HC2.out _).mono ?_
    rintro r w6 ⟨rfl, hw6⟩
    have HB6 : Hid (Below w.heap.size w w6) := by rw [hw6]; first | exact HB5.out.drew | exact HB5.out
    refine hK.out _ _ (by rw [hw6]; exact hHeld) (fun hHeld => ?_)
    clear hK K hw6
    as_aux_lemma =>
      refine wpAnyH_take (i := 7) (oi := { dst := some 47, op := Op.binOp BinOp.neq 3 (Operand.tmp 42) (Operand.tmp 46) 3, type := 4, pos := "law.go:39", after := #[{ on := 2, ground := Ground.data }, { on := 6, ground := Ground.data }], guard := none }) (v := _) (by as_aux_lemma => kernel_rfl) (by as_aux_lemma => kernel_rfl) (by as_aux_lemma => kernel_rfl) (by as_aux_lemma => kernel_rfl) (by exact fun _ _ _ h => hQp _ _ _ _ _ h) (Or.inl ⟨by as_aux_lemma => kernel_rfl, by intro w' hSw; (try dsimp only at hSw); first | (go_simp; done) | (go_simp; with_reducible rfl)⟩) hHeld ?_
      simp only [Act.put, List.setIfInBounds_toArray, List.set_cons_zero, List.set_cons_succ]
      refine wpAnyH_take (i := 8) (oi := { dst := some 48, op := Op.move (Operand.tmp 47), type := 4, pos := "law.go:39", after := #[{ on := 7, ground := Ground.data }, { on := 6, ground := Ground.chain }], guard := none }) (v := _) (by as_aux_lemma => kernel_rfl) (by as_aux_lemma => kernel_rfl) (by as_aux_lemma => kernel_rfl) (by as_aux_lemma => kernel_rfl) (by exact fun _ _ _ h => hQp _ _ _ _ _ h) (Or.inl ⟨by as_aux_lemma => kernel_rfl, by intro w' hSw; (try dsimp only at hSw); first | (go_simp; done) | (go_simp; with_reducible rfl)⟩) hHeld ?_
      simp only [Act.put, List.setIfInBounds_toArray, List.set_cons_zero, List.set_cons_succ]
      refine wpAnyH_take (i := 10) (oi := { dst := some 50, op := Op.move (Operand.tmp 9), type := 3, pos := "law.go:39", after := #[{ on := 8, ground := Ground.guard }], guard := some (8, false) }) (v := _) (by as_aux_lemma => kernel_rfl) (by as_aux_lemma => kernel_rfl) (by as_aux_lemma => kernel_rfl) (by as_aux_lemma => kernel_rfl) (by exact fun _ _ _ h => hQp _ _ _ _ _ h) (Or.inl ⟨by as_aux_lemma => kernel_rfl, by intro w' hSw; (try dsimp only at hSw); first | (go_simp; done) | (go_simp; with_reducible rfl)⟩) hHeld ?_
      simp only [Act.put, List.setIfInBounds_toArray, List.set_cons_zero, List.set_cons_succ]
      refine wpAnyH_ready (rs := [9]) (by as_aux_lemma => kernel_rfl) (by simp) ?_
      refine AllReadyH.cons (o := { dst := some 49, op := Op.call { callee := Callee.value (Operand.func 26), args := #[], argTypes := #[] }, type := 63, pos := "law.go:39", after := #[{ on := 8, ground := Ground.chain }, { on := 8, ground := Ground.guard }], guard := some (8, false) }) (by as_aux_lemma => kernel_rfl) (fun K hK => ?_) AllReadyH.nil
      refine ite_want (by as_aux_lemma => kernel_rfl) ?_
      go_simp
      go_wp2_with fail
      refine (HT.out _).mono ?_
      rintro r w7 ⟨rfl, hb7⟩
      have HB7 : Hid (Below w.heap.size w w7) := by first | exact HB6.out.trans (hb7.mono HB6.out.size) | exact HB6.out.drew.trans (hb7.mono HB6.out.drew.size)
      refine hK.out _ _ ⟨(hb7.cell (p := ⟨p7, 0, none⟩) (lt_of_cell hHeld.1)).trans hHeld.1, (hb7.cell (p := ⟨p7, 1, none⟩) (lt_of_cell hHeld.2.1)).trans hHeld.2.1, (hb7.cell (p := ⟨p8, 0, none⟩) (lt_of_cell hHeld.2.2.1)).trans hHeld.2.2.1, (hb7.cell (p := ⟨p8, 1, none⟩) (lt_of_cell hHeld.2.2.2.1)).trans hHeld.2.2.2.1, (hb7.cell (p := ⟨A, 0, none⟩) (lt_of_cell hHeld.2.2.2.2.1)).trans hHeld.2.2.2.2.1, (hb7.cell (p := ⟨A, 1, none⟩) (lt_of_cell hHeld.2.2.2.2.2.1)).trans hHeld.2.2.2.2.2.1, (hb7.cell (p := ⟨A, 2, none⟩) (lt_of_cell hHeld.2.2.2.2.2.2)).trans hHeld.2.2.2.2.2.2⟩ (fun hHeld => ?_)
      clear hK K hb7
      as_aux_lemma =>
        refine wpAnyH_ready (rs := [11]) (by as_aux_lemma => kernel_rfl) (by simp) ?_
        refine AllReadyH.cons (o := { dst := some 51, op := Op.call { callee := Callee.value (Operand.func 27), args := #[Operand.tmp 49, Operand.tmp 50], argTypes := #[63, 3] }, type := 4, pos := "law.go:39", after := #[{ on := 9, ground := Ground.data }, { on := 10, ground := Ground.data }, { on := 9, ground := Ground.chain }, { on := 8, ground := Ground.guard }], guard := some (8, false) }) (by as_aux_lemma => kernel_rfl) (fun K hK => ?_) AllReadyH.nil
        refine ite_want (by as_aux_lemma => kernel_rfl) ?_
        go_simp
        go_wp2_with fail
        refine (HH1.out _).mono ?_
        rintro r w8 ⟨rfl, hb8⟩
        have HB8 : Hid (Below w.heap.size w w8) := by first | exact HB7.out.trans (hb8.mono HB7.out.size) | exact HB7.out.drew.trans (hb8.mono HB7.out.drew.size)
        refine hK.out _ _ ⟨(hb8.cell (p := ⟨p7, 0, none⟩) (lt_of_cell hHeld.1)).trans hHeld.1, (hb8.cell (p := ⟨p7, 1, none⟩) (lt_of_cell hHeld.2.1)).trans hHeld.2.1, (hb8.cell (p := ⟨p8, 0, none⟩) (lt_of_cell hHeld.2.2.1)).trans hHeld.2.2.1, (hb8.cell (p := ⟨p8, 1, none⟩) (lt_of_cell hHeld.2.2.2.1)).trans hHeld.2.2.2.1, (hb8.cell (p := ⟨A, 0, none⟩) (lt_of_cell hHeld.2.2.2.2.1)).trans hHeld.2.2.2.2.1, (hb8.cell (p := ⟨A, 1, none⟩) (lt_of_cell hHeld.2.2.2.2.2.1)).trans hHeld.2.2.2.2.2.1, (hb8.cell (p := ⟨A, 2, none⟩) (lt_of_cell hHeld.2.2.2.2.2.2)).trans hHeld.2.2.2.2.2.2⟩ (fun hHeld => ?_)
        clear hK K hb8
        as_aux_lemma =>
          refine wpAnyH_take (i := 12) (oi := { dst := some 52, op := Op.unOp UnOp.not 4 (Operand.tmp 51), type := 4, pos := "law.go:39", after := #[{ on := 11, ground := Ground.data }, { on := 8, ground := Ground.guard }], guard := some (8, false) }) (v := _) (by as_aux_lemma => kernel_rfl) (by as_aux_lemma => kernel_rfl) (by as_aux_lemma => kernel_rfl) (by as_aux_lemma => kernel_rfl) (by exact fun _ _ _ h => hQp _ _ _ _ _ h) (Or.inl ⟨by as_aux_lemma => kernel_rfl, by intro w' hSw; (try dsimp only at hSw); first | (go_simp; done) | (go_simp; with_reducible rfl)⟩) hHeld ?_
          simp only [Act.put, List.setIfInBounds_toArray, List.set_cons_zero, List.set_cons_succ]
          refine wpAnyH_take (i := 13) (oi := { dst := some 53, op := Op.pick (Operand.tmp 48) (Operand.const (Value.bool true)) (Operand.tmp 52), type := 4, pos := "law.go:39", after := #[{ on := 8, ground := Ground.data }, { on := 12, ground := Ground.data }], guard := none }) (v := _) (by as_aux_lemma => kernel_rfl) (by as_aux_lemma => kernel_rfl) (by as_aux_lemma => kernel_rfl) (by as_aux_lemma => kernel_rfl) (by exact fun _ _ _ h => hQp _ _ _ _ _ h) (Or.inl ⟨by as_aux_lemma => kernel_rfl, by intro w' hSw; (try dsimp only at hSw); first | (go_simp; done) | (go_simp; with_reducible rfl)⟩) hHeld ?_
          simp only [Act.put, List.setIfInBounds_toArray, List.set_cons_zero, List.set_cons_succ]
          refine wpAnyH_take (i := 14) (oi := { dst := some 54, op := Op.move (Operand.tmp 53), type := 4, pos := "law.go:39", after := #[{ on := 13, ground := Ground.data }, { on := 11, ground := Ground.chain }], guard := none }) (v := _) (by as_aux_lemma => kernel_rfl) (by as_aux_lemma => kernel_rfl) (by as_aux_lemma => kernel_rfl) (by as_aux_lemma => kernel_rfl) (by exact fun _ _ _ h => hQp _ _ _ _ _ h) (Or.inl ⟨by as_aux_lemma => kernel_rfl, by intro w' hSw; (try dsimp only at hSw); first | (go_simp; done) | (go_simp; with_reducible rfl)⟩) hHeld ?_
          simp only [Act.put, List.setIfInBounds_toArray, List.set_cons_zero, List.set_cons_succ]
          refine wpAnyH_take (i := 15) (oi := { dst := some 55, op := Op.move (Operand.tmp 9), type := 3, pos := "law.go:39", after := #[{ on := 14, ground := Ground.guard }], guard := some (14, false) }) (v := _) (by as_aux_lemma => kernel_rfl) (by as_aux_lemma => kernel_rfl) (by as_aux_lemma => kernel_rfl) (by as_aux_lemma => kernel_rfl) (by exact fun _ _ _ h => hQp _ _ _ _ _ h) (Or.inl ⟨by as_aux_lemma => kernel_rfl, by intro w' hSw; (try dsimp only at hSw); first | (go_simp; done) | (go_simp; with_reducible rfl)⟩) hHeld ?_
          simp only [Act.put, List.setIfInBounds_toArray, List.set_cons_zero, List.set_cons_succ]
          refine wpAnyH_take (i := 17) (oi := { dst := some 57, op := Op.move (Operand.tmp 9), type := 3, pos := "law.go:39", after := #[{ on := 14, ground := Ground.guard }], guard := some (14, false) }) (v := _) (by as_aux_lemma => kernel_rfl) (by as_aux_lemma => kernel_rfl) (by as_aux_lemma => kernel_rfl) (by as_aux_lemma => kernel_rfl) (by exact fun _ _ _ h => hQp _ _ _ _ _ h) (Or.inl ⟨by as_aux_lemma => kernel_rfl, by intro w' hSw; (try dsimp only at hSw); first | (go_simp; done) | (go_simp; with_reducible rfl)⟩) hHeld ?_
          simp only [Act.put, List.setIfInBounds_toArray, List.set_cons_zero, List.set_cons_succ]
          refine wpAnyH_ready (rs := [16]) (by as_aux_lemma => kernel_rfl) (by simp) ?_
          refine AllReadyH.cons (o := { dst := some 56, op := Op.call { callee := Callee.value (Operand.func 28), args := #[Operand.tmp 55], argTypes := #[3] }, type := 63, pos := "law.go:39", after := #[{ on := 15, ground := Ground.data }, { on := 14, ground := Ground.chain }, { on := 14, ground := Ground.guard }], guard := some (14, false) }) (by as_aux_lemma => kernel_rfl) (fun K hK => ?_) AllReadyH.nil
          refine ite_want (by as_aux_lemma => kernel_rfl) ?_
          go_simp
          go_wp2_with fail
          refine (HO.out _).mono ?_
          rintro r w9 ⟨rfl, hb9⟩
          have HB9 : Hid (Below w.heap.size w w9) := by first | exact HB8.out.trans (hb9.mono HB8.out.size) | exact HB8.out.drew.trans (hb9.mono HB8.out.drew.size)
          refine hK.out _ _ ⟨(hb9.cell (p := ⟨p7, 0, none⟩) (lt_of_cell hHeld.1)).trans hHeld.1, (hb9.cell (p := ⟨p7, 1, none⟩) (lt_of_cell hHeld.2.1)).trans hHeld.2.1, (hb9.cell (p := ⟨p8, 0, none⟩) (lt_of_cell hHeld.2.2.1)).trans hHeld.2.2.1, (hb9.cell (p := ⟨p8, 1, none⟩) (lt_of_cell hHeld.2.2.2.1)).trans hHeld.2.2.2.1, (hb9.cell (p := ⟨A, 0, none⟩) (lt_of_cell hHeld.2.2.2.2.1)).trans hHeld.2.2.2.2.1, (hb9.cell (p := ⟨A, 1, none⟩) (lt_of_cell hHeld.2.2.2.2.2.1)).trans hHeld.2.2.2.2.2.1, (hb9.cell (p := ⟨A, 2, none⟩) (lt_of_cell hHeld.2.2.2.2.2.2)).trans hHeld.2.2.2.2.2.2⟩ (fun hHeld => ?_)
          clear hK K hb9
          as_aux_lemma =>
            refine wpAnyH_ready (rs := [18]) (by as_aux_lemma => kernel_rfl) (by simp) ?_
            refine AllReadyH.cons (o := { dst := some 58, op := Op.call { callee := Callee.value (Operand.func 27), args := #[Operand.tmp 56, Operand.tmp 57], argTypes := #[63, 3] }, type := 4, pos := "law.go:39", after := #[{ on := 16, ground := Ground.data }, { on := 17, ground := Ground.data }, { on := 16, ground := Ground.chain }, { on := 14, ground := Ground.guard }], guard := some (14, false) }) (by as_aux_lemma => kernel_rfl) (fun K hK => ?_) AllReadyH.nil
            refine ite_want (by as_aux_lemma => kernel_rfl) ?_
            go_simp
            go_wp2_with fail
            refine (HH2.out _).mono ?_
            rintro r w10 ⟨rfl, hb10⟩
            have HB10 : Hid (Below w.heap.size w w10) := by first | exact HB9.out.trans (hb10.mono HB9.out.size) | exact HB9.out.drew.trans (hb10.mono HB9.out.drew.size)
            refine hK.out _ _ ⟨(hb10.cell (p := ⟨p7, 0, none⟩) (lt_of_cell hHeld.1)).trans hHeld.1, (hb10.cell (p := ⟨p7, 1, none⟩) (lt_of_cell hHeld.2.1)).trans hHeld.2.1, (hb10.cell (p := ⟨p8, 0, none⟩) (lt_of_cell hHeld.2.2.1)).trans hHeld.2.2.1, (hb10.cell (p := ⟨p8, 1, none⟩) (lt_of_cell hHeld.2.2.2.1)).trans hHeld.2.2.2.1, (hb10.cell (p := ⟨A, 0, none⟩) (lt_of_cell hHeld.2.2.2.2.1)).trans hHeld.2.2.2.2.1, (hb10.cell (p := ⟨A, 1, none⟩) (lt_of_cell hHeld.2.2.2.2.2.1)).trans hHeld.2.2.2.2.2.1, (hb10.cell (p := ⟨A, 2, none⟩) (lt_of_cell hHeld.2.2.2.2.2.2)).trans hHeld.2.2.2.2.2.2⟩ (fun hHeld => ?_)
            clear hK K hb10
            as_aux_lemma =>
              refine wpAnyH_take (i := 19) (oi := { dst := some 59, op := Op.unOp UnOp.not 4 (Operand.tmp 58), type := 4, pos := "law.go:39", after := #[{ on := 18, ground := Ground.data }, { on := 14, ground := Ground.guard }], guard := some (14, false) }) (v := _) (by as_aux_lemma => kernel_rfl) (by as_aux_lemma => kernel_rfl) (by as_aux_lemma => kernel_rfl) (by as_aux_lemma => kernel_rfl) (by exact fun _ _ _ h => hQp _ _ _ _ _ h) (Or.inl ⟨by as_aux_lemma => kernel_rfl, by intro w' hSw; (try dsimp only at hSw); first | (go_simp; done) | (go_simp; with_reducible rfl)⟩) hHeld ?_
              simp only [Act.put, List.setIfInBounds_toArray, List.set_cons_zero, List.set_cons_succ]
              refine wpAnyH_take (i := 20) (oi := { dst := some 60, op := Op.pick (Operand.tmp 54) (Operand.const (Value.bool true)) (Operand.tmp 59), type := 4, pos := "law.go:39", after := #[{ on := 14, ground := Ground.data }, { on := 19, ground := Ground.data }], guard := none }) (v := _) (by as_aux_lemma => kernel_rfl) (by as_aux_lemma => kernel_rfl) (by as_aux_lemma => kernel_rfl) (by as_aux_lemma => kernel_rfl) (by exact fun _ _ _ h => hQp _ _ _ _ _ h) (Or.inl ⟨by as_aux_lemma => kernel_rfl, by intro w' hSw; (try dsimp only at hSw); first | (go_simp; done) | (go_simp; with_reducible rfl)⟩) hHeld ?_
              simp only [Act.put, List.setIfInBounds_toArray, List.set_cons_zero, List.set_cons_succ]
              refine wpAnyH_take (i := 21) (oi := { dst := some 61, op := Op.move (Operand.tmp 60), type := 4, pos := "law.go:39", after := #[{ on := 20, ground := Ground.data }, { on := 18, ground := Ground.chain }], guard := none }) (v := _) (by as_aux_lemma => kernel_rfl) (by as_aux_lemma => kernel_rfl) (by as_aux_lemma => kernel_rfl) (by as_aux_lemma => kernel_rfl) (by exact fun _ _ _ h => hQp _ _ _ _ _ h) (Or.inl ⟨by as_aux_lemma => kernel_rfl, by intro w' hSw; (try dsimp only at hSw); first | (go_simp; done) | (go_simp; with_reducible rfl)⟩) hHeld ?_
              simp only [Act.put, List.setIfInBounds_toArray, List.set_cons_zero, List.set_cons_succ]
              refine wpAnyH_take (i := 22) (oi := { dst := some 62, op := Op.load 63 (Operand.tmp 7), type := 63, pos := "law.go:39", after := #[{ on := 21, ground := Ground.guard }], guard := some (21, false) }) (v := _) (by as_aux_lemma => kernel_rfl) (by as_aux_lemma => kernel_rfl) (by as_aux_lemma => kernel_rfl) (by as_aux_lemma => kernel_rfl) (by exact fun _ _ _ h => hQp _ _ _ _ _ h) (Or.inl ⟨by as_aux_lemma => kernel_rfl, by intro w' hSw; (try dsimp only at hSw); first | (go_simp; done) | (go_simp; with_reducible rfl)⟩) hHeld ?_
              simp only [Act.put, List.setIfInBounds_toArray, List.set_cons_zero, List.set_cons_succ]
              refine wpAnyH_take (i := 23) (oi := { dst := some 63, op := Op.move (Operand.tmp 9), type := 3, pos := "law.go:39", after := #[{ on := 21, ground := Ground.guard }], guard := some (21, false) }) (v := _) (by as_aux_lemma => kernel_rfl) (by as_aux_lemma => kernel_rfl) (by as_aux_lemma => kernel_rfl) (by as_aux_lemma => kernel_rfl) (by exact fun _ _ _ h => hQp _ _ _ _ _ h) (Or.inl ⟨by as_aux_lemma => kernel_rfl, by intro w' hSw; (try dsimp only at hSw); first | (go_simp; done) | (go_simp; with_reducible rfl)⟩) hHeld ?_
              simp only [Act.put, List.setIfInBounds_toArray, List.set_cons_zero, List.set_cons_succ]
              refine wpAnyH_ready (rs := [24]) (by as_aux_lemma => kernel_rfl) (by simp) ?_
              refine AllReadyH.cons (o := { dst := some 64, op := Op.call { callee := Callee.value (Operand.func 27), args := #[Operand.tmp 62, Operand.tmp 63], argTypes := #[63, 3] }, type := 4, pos := "law.go:39", after := #[{ on := 22, ground := Ground.data }, { on := 23, ground := Ground.data }, { on := 21, ground := Ground.chain }, { on := 21, ground := Ground.guard }], guard := some (21, false) }) (by as_aux_lemma => kernel_rfl) (fun K hK => ?_) AllReadyH.nil
              refine ite_want (by as_aux_lemma => kernel_rfl) ?_
              go_simp
              go_wp2_with fail
              refine (HH3.out _).mono ?_
              rintro r w11 ⟨rfl, hb11⟩
              have HB11 : Hid (Below w.heap.size w w11) := by first | exact HB10.out.trans (hb11.mono HB10.out.size) | exact HB10.out.drew.trans (hb11.mono HB10.out.drew.size)
              refine hK.out _ _ ⟨(hb11.cell (p := ⟨p7, 0, none⟩) (lt_of_cell hHeld.1)).trans hHeld.1, (hb11.cell (p := ⟨p7, 1, none⟩) (lt_of_cell hHeld.2.1)).trans hHeld.2.1, (hb11.cell (p := ⟨p8, 0, none⟩) (lt_of_cell hHeld.2.2.1)).trans hHeld.2.2.1, (hb11.cell (p := ⟨p8, 1, none⟩) (lt_of_cell hHeld.2.2.2.1)).trans hHeld.2.2.2.1, (hb11.cell (p := ⟨A, 0, none⟩) (lt_of_cell hHeld.2.2.2.2.1)).trans hHeld.2.2.2.2.1, (hb11.cell (p := ⟨A, 1, none⟩) (lt_of_cell hHeld.2.2.2.2.2.1)).trans hHeld.2.2.2.2.2.1, (hb11.cell (p := ⟨A, 2, none⟩) (lt_of_cell hHeld.2.2.2.2.2.2)).trans hHeld.2.2.2.2.2.2⟩ (fun hHeld => ?_)
              clear hK K hb11
              as_aux_lemma =>
                refine wpAnyH_take (i := 25) (oi := { dst := some 65, op := Op.unOp UnOp.not 4 (Operand.tmp 64), type := 4, pos := "law.go:39", after := #[{ on := 24, ground := Ground.data }, { on := 21, ground := Ground.guard }], guard := some (21, false) }) (v := _) (by as_aux_lemma => kernel_rfl) (by as_aux_lemma => kernel_rfl) (by as_aux_lemma => kernel_rfl) (by as_aux_lemma => kernel_rfl) (by exact fun _ _ _ h => hQp _ _ _ _ _ h) (Or.inl ⟨by as_aux_lemma => kernel_rfl, by intro w' hSw; (try dsimp only at hSw); first | (go_simp; done) | (go_simp; with_reducible rfl)⟩) hHeld ?_
                simp only [Act.put, List.setIfInBounds_toArray, List.set_cons_zero, List.set_cons_succ]
                refine wpAnyH_take (i := 26) (oi := { dst := some 66, op := Op.pick (Operand.tmp 61) (Operand.const (Value.bool true)) (Operand.tmp 65), type := 4, pos := "law.go:39", after := #[{ on := 21, ground := Ground.data }, { on := 25, ground := Ground.data }], guard := none }) (v := _) (by as_aux_lemma => kernel_rfl) (by as_aux_lemma => kernel_rfl) (by as_aux_lemma => kernel_rfl) (by as_aux_lemma => kernel_rfl) (by exact fun _ _ _ h => hQp _ _ _ _ _ h) (Or.inl ⟨by as_aux_lemma => kernel_rfl, by intro w' hSw; (try dsimp only at hSw); first | (go_simp; done) | (go_simp; with_reducible rfl)⟩) hHeld ?_
                simp only [Act.put, List.setIfInBounds_toArray, List.set_cons_zero, List.set_cons_succ]
                refine wpAnyH_take (i := 27) (oi := { dst := some 67, op := Op.move (Operand.tmp 66), type := 4, pos := "law.go:39", after := #[{ on := 26, ground := Ground.data }, { on := 24, ground := Ground.chain }], guard := none }) (v := _) (by as_aux_lemma => kernel_rfl) (by as_aux_lemma => kernel_rfl) (by as_aux_lemma => kernel_rfl) (by as_aux_lemma => kernel_rfl) (by exact fun _ _ _ h => hQp _ _ _ _ _ h) (Or.inl ⟨by as_aux_lemma => kernel_rfl, by intro w' hSw; (try dsimp only at hSw); first | (go_simp; done) | (go_simp; with_reducible rfl)⟩) hHeld ?_
                simp only [Act.put, List.setIfInBounds_toArray, List.set_cons_zero, List.set_cons_succ]
                refine wpAnyH_take (i := 28) (oi := { dst := some 68, op := Op.load 63 (Operand.tmp 7), type := 63, pos := "law.go:39", after := #[{ on := 27, ground := Ground.guard }], guard := some (27, false) }) (v := _) (by as_aux_lemma => kernel_rfl) (by as_aux_lemma => kernel_rfl) (by as_aux_lemma => kernel_rfl) (by as_aux_lemma => kernel_rfl) (by exact fun _ _ _ h => hQp _ _ _ _ _ h) (Or.inl ⟨by as_aux_lemma => kernel_rfl, by intro w' hSw; (try dsimp only at hSw); first | (go_simp; done) | (go_simp; with_reducible rfl)⟩) hHeld ?_
                simp only [Act.put, List.setIfInBounds_toArray, List.set_cons_zero, List.set_cons_succ]
                refine wpAnyH_take (i := 29) (oi := { dst := some 69, op := Op.load 63 (Operand.tmp 8), type := 63, pos := "law.go:39", after := #[{ on := 27, ground := Ground.guard }], guard := some (27, false) }) (v := _) (by as_aux_lemma => kernel_rfl) (by as_aux_lemma => kernel_rfl) (by as_aux_lemma => kernel_rfl) (by as_aux_lemma => kernel_rfl) (by exact fun _ _ _ h => hQp _ _ _ _ _ h) (Or.inl ⟨by as_aux_lemma => kernel_rfl, by intro w' hSw; (try dsimp only at hSw); first | (go_simp; done) | (go_simp; with_reducible rfl)⟩) hHeld ?_
                simp only [Act.put, List.setIfInBounds_toArray, List.set_cons_zero, List.set_cons_succ]
                refine wpAnyH_take (i := 31) (oi := { dst := some 71, op := Op.move (Operand.tmp 9), type := 3, pos := "law.go:39", after := #[{ on := 27, ground := Ground.guard }], guard := some (27, false) }) (v := _) (by as_aux_lemma => kernel_rfl) (by as_aux_lemma => kernel_rfl) (by as_aux_lemma => kernel_rfl) (by as_aux_lemma => kernel_rfl) (by exact fun _ _ _ h => hQp _ _ _ _ _ h) (Or.inl ⟨by as_aux_lemma => kernel_rfl, by intro w' hSw; (try dsimp only at hSw); first | (go_simp; done) | (go_simp; with_reducible rfl)⟩) hHeld ?_
                simp only [Act.put, List.setIfInBounds_toArray, List.set_cons_zero, List.set_cons_succ]
                refine wpAnyH_ready (rs := [30]) (by as_aux_lemma => kernel_rfl) (by simp) ?_
                refine AllReadyH.cons (o := { dst := some 70, op := Op.call { callee := Callee.value (Operand.func 29), args := #[Operand.tmp 68, Operand.tmp 69], argTypes := #[63, 63] }, type := 63, pos := "law.go:39", after := #[{ on := 28, ground := Ground.data }, { on := 29, ground := Ground.data }, { on := 27, ground := Ground.chain }, { on := 27, ground := Ground.guard }], guard := some (27, false) }) (by as_aux_lemma => kernel_rfl) (fun K hK => ?_) AllReadyH.nil
                refine ite_want (by as_aux_lemma => kernel_rfl) ?_
                go_simp
                go_wp2_with fail
                refine (HJ.out _).mono ?_
                rintro r w12 ⟨rfl, hb12⟩
                have HB12 : Hid (Below w.heap.size w w12) := by first | exact HB11.out.trans (hb12.mono HB11.out.size) | exact HB11.out.drew.trans (hb12.mono HB11.out.drew.size)
                refine hK.out _ _ ⟨(hb12.cell (p := ⟨p7, 0, none⟩) (lt_of_cell hHeld.1)).trans hHeld.1, (hb12.cell (p := ⟨p7, 1, none⟩) (lt_of_cell hHeld.2.1)).trans hHeld.2.1, (hb12.cell (p := ⟨p8, 0, none⟩) (lt_of_cell hHeld.2.2.1)).trans hHeld.2.2.1, (hb12.cell (p := ⟨p8, 1, none⟩) (lt_of_cell hHeld.2.2.2.1)).trans hHeld.2.2.2.1, (hb12.cell (p := ⟨A, 0, none⟩) (lt_of_cell hHeld.2.2.2.2.1)).trans hHeld.2.2.2.2.1, (hb12.cell (p := ⟨A, 1, none⟩) (lt_of_cell hHeld.2.2.2.2.2.1)).trans hHeld.2.2.2.2.2.1, (hb12.cell (p := ⟨A, 2, none⟩) (lt_of_cell hHeld.2.2.2.2.2.2)).trans hHeld.2.2.2.2.2.2⟩ (fun hHeld => ?_)
                clear hK K hb12
                as_aux_lemma =>
                  refine wpAnyH_ready (rs := [32]) (by as_aux_lemma => kernel_rfl) (by simp) ?_
                  refine AllReadyH.cons (o := { dst := some 72, op := Op.call { callee := Callee.value (Operand.func 27), args := #[Operand.tmp 70, Operand.tmp 71], argTypes := #[63, 3] }, type := 4, pos := "law.go:39", after := #[{ on := 30, ground := Ground.data }, { on := 31, ground := Ground.data }, { on := 30, ground := Ground.chain }, { on := 27, ground := Ground.guard }], guard := some (27, false) }) (by as_aux_lemma => kernel_rfl) (fun K hK => ?_) AllReadyH.nil
                  refine ite_want (by as_aux_lemma => kernel_rfl) ?_
                  go_simp
                  go_wp2_with fail
                  refine (HH4.out _).mono ?_
                  rintro r w13 ⟨rfl, hb13⟩
                  have HB13 : Hid (Below w.heap.size w w13) := by first | exact HB12.out.trans (hb13.mono HB12.out.size) | exact HB12.out.drew.trans (hb13.mono HB12.out.drew.size)
                  refine hK.out _ _ ⟨(hb13.cell (p := ⟨p7, 0, none⟩) (lt_of_cell hHeld.1)).trans hHeld.1, (hb13.cell (p := ⟨p7, 1, none⟩) (lt_of_cell hHeld.2.1)).trans hHeld.2.1, (hb13.cell (p := ⟨p8, 0, none⟩) (lt_of_cell hHeld.2.2.1)).trans hHeld.2.2.1, (hb13.cell (p := ⟨p8, 1, none⟩) (lt_of_cell hHeld.2.2.2.1)).trans hHeld.2.2.2.1, (hb13.cell (p := ⟨A, 0, none⟩) (lt_of_cell hHeld.2.2.2.2.1)).trans hHeld.2.2.2.2.1, (hb13.cell (p := ⟨A, 1, none⟩) (lt_of_cell hHeld.2.2.2.2.2.1)).trans hHeld.2.2.2.2.2.1, (hb13.cell (p := ⟨A, 2, none⟩) (lt_of_cell hHeld.2.2.2.2.2.2)).trans hHeld.2.2.2.2.2.2⟩ (fun hHeld => ?_)
                  clear hK K hb13
                  as_aux_lemma =>
                    refine wpAnyH_take (i := 33) (oi := { dst := some 73, op := Op.unOp UnOp.not 4 (Operand.tmp 72), type := 4, pos := "law.go:39", after := #[{ on := 32, ground := Ground.data }, { on := 27, ground := Ground.guard }], guard := some (27, false) }) (v := _) (by as_aux_lemma => kernel_rfl) (by as_aux_lemma => kernel_rfl) (by as_aux_lemma => kernel_rfl) (by as_aux_lemma => kernel_rfl) (by exact fun _ _ _ h => hQp _ _ _ _ _ h) (Or.inl ⟨by as_aux_lemma => kernel_rfl, by intro w' hSw; (try dsimp only at hSw); first | (go_simp; done) | (go_simp; with_reducible rfl)⟩) hHeld ?_
                    simp only [Act.put, List.setIfInBounds_toArray, List.set_cons_zero, List.set_cons_succ]
                    refine wpAnyH_take (i := 34) (oi := { dst := some 74, op := Op.pick (Operand.tmp 67) (Operand.const (Value.bool true)) (Operand.tmp 73), type := 4, pos := "law.go:39", after := #[{ on := 27, ground := Ground.data }, { on := 33, ground := Ground.data }], guard := none }) (v := _) (by as_aux_lemma => kernel_rfl) (by as_aux_lemma => kernel_rfl) (by as_aux_lemma => kernel_rfl) (by as_aux_lemma => kernel_rfl) (by exact fun _ _ _ h => hQp _ _ _ _ _ h) (Or.inl ⟨by as_aux_lemma => kernel_rfl, by intro w' hSw; (try dsimp only at hSw); first | (go_simp; done) | (go_simp; with_reducible rfl)⟩) hHeld ?_
                    simp only [Act.put, List.setIfInBounds_toArray, List.set_cons_zero, List.set_cons_succ]
                    refine wpAnyH_take (i := 35) (oi := { dst := some 75, op := Op.move (Operand.tmp 74), type := 4, pos := "law.go:39", after := #[{ on := 34, ground := Ground.data }, { on := 32, ground := Ground.chain }], guard := none }) (v := _) (by as_aux_lemma => kernel_rfl) (by as_aux_lemma => kernel_rfl) (by as_aux_lemma => kernel_rfl) (by as_aux_lemma => kernel_rfl) (by exact fun _ _ _ h => hQp _ _ _ _ _ h) (Or.inl ⟨by as_aux_lemma => kernel_rfl, by intro w' hSw; (try dsimp only at hSw); first | (go_simp; done) | (go_simp; with_reducible rfl)⟩) hHeld ?_
                    simp only [Act.put, List.setIfInBounds_toArray, List.set_cons_zero, List.set_cons_succ]
                    refine wpAnyH_take (i := 36) (oi := { dst := some 76, op := Op.load 63 (Operand.tmp 7), type := 63, pos := "law.go:39", after := #[{ on := 35, ground := Ground.guard }], guard := some (35, false) }) (v := _) (by as_aux_lemma => kernel_rfl) (by as_aux_lemma => kernel_rfl) (by as_aux_lemma => kernel_rfl) (by as_aux_lemma => kernel_rfl) (by exact fun _ _ _ h => hQp _ _ _ _ _ h) (Or.inl ⟨by as_aux_lemma => kernel_rfl, by intro w' hSw; (try dsimp only at hSw); first | (go_simp; done) | (go_simp; with_reducible rfl)⟩) hHeld ?_
                    simp only [Act.put, List.setIfInBounds_toArray, List.set_cons_zero, List.set_cons_succ]
                    refine wpAnyH_take (i := 37) (oi := { dst := some 77, op := Op.load 63 (Operand.tmp 8), type := 63, pos := "law.go:39", after := #[{ on := 35, ground := Ground.guard }], guard := some (35, false) }) (v := _) (by as_aux_lemma => kernel_rfl) (by as_aux_lemma => kernel_rfl) (by as_aux_lemma => kernel_rfl) (by as_aux_lemma => kernel_rfl) (by exact fun _ _ _ h => hQp _ _ _ _ _ h) (Or.inl ⟨by as_aux_lemma => kernel_rfl, by intro w' hSw; (try dsimp only at hSw); first | (go_simp; done) | (go_simp; with_reducible rfl)⟩) hHeld ?_
                    simp only [Act.put, List.setIfInBounds_toArray, List.set_cons_zero, List.set_cons_succ]
                    refine wpAnyH_take (i := 39) (oi := { dst := some 79, op := Op.move (Operand.tmp 10), type := 3, pos := "law.go:39", after := #[{ on := 35, ground := Ground.guard }], guard := some (35, false) }) (v := _) (by as_aux_lemma => kernel_rfl) (by as_aux_lemma => kernel_rfl) (by as_aux_lemma => kernel_rfl) (by as_aux_lemma => kernel_rfl) (by exact fun _ _ _ h => hQp _ _ _ _ _ h) (Or.inl ⟨by as_aux_lemma => kernel_rfl, by intro w' hSw; (try dsimp only at hSw); first | (go_simp; done) | (go_simp; with_reducible rfl)⟩) hHeld ?_
                    simp only [Act.put, List.setIfInBounds_toArray, List.set_cons_zero, List.set_cons_succ]
                    refine wpAnyH_ready (rs := [38]) (by as_aux_lemma => kernel_rfl) (by simp) ?_
                    refine AllReadyH.cons (o := { dst := some 78, op := Op.call { callee := Callee.value (Operand.func 29), args := #[Operand.tmp 76, Operand.tmp 77], argTypes := #[63, 63] }, type := 63, pos := "law.go:39", after := #[{ on := 36, ground := Ground.data }, { on := 37, ground := Ground.data }, { on := 35, ground := Ground.chain }, { on := 35, ground := Ground.guard }], guard := some (35, false) }) (by as_aux_lemma => kernel_rfl) (fun K hK => ?_) AllReadyH.nil
                    refine ite_want (by as_aux_lemma => kernel_rfl) ?_
                    go_simp
                    go_wp2_with fail
                    refine (HJ.out _).mono ?_
                    rintro r w14 ⟨rfl, hb14⟩
                    have HB14 : Hid (Below w.heap.size w w14) := by first | exact HB13.out.trans (hb14.mono HB13.out.size) | exact HB13.out.drew.trans (hb14.mono HB13.out.drew.size)
                    refine hK.out _ _ ⟨(hb14.cell (p := ⟨p7, 0, none⟩) (lt_of_cell hHeld.1)).trans hHeld.1, (hb14.cell (p := ⟨p7, 1, none⟩) (lt_of_cell hHeld.2.1)).trans hHeld.2.1, (hb14.cell (p := ⟨p8, 0, none⟩) (lt_of_cell hHeld.2.2.1)).trans hHeld.2.2.1, (hb14.cell (p := ⟨p8, 1, none⟩) (lt_of_cell hHeld.2.2.2.1)).trans hHeld.2.2.2.1, (hb14.cell (p := ⟨A, 0, none⟩) (lt_of_cell hHeld.2.2.2.2.1)).trans hHeld.2.2.2.2.1, (hb14.cell (p := ⟨A, 1, none⟩) (lt_of_cell hHeld.2.2.2.2.2.1)).trans hHeld.2.2.2.2.2.1, (hb14.cell (p := ⟨A, 2, none⟩) (lt_of_cell hHeld.2.2.2.2.2.2)).trans hHeld.2.2.2.2.2.2⟩ (fun hHeld => ?_)
                    clear hK K hb14
                    as_aux_lemma =>
                      refine wpAnyH_ready (rs := [40]) (by as_aux_lemma => kernel_rfl) (by simp) ?_
                      refine AllReadyH.cons (o := { dst := some 80, op := Op.call { callee := Callee.value (Operand.func 27), args := #[Operand.tmp 78, Operand.tmp 79], argTypes := #[63, 3] }, type := 4, pos := "law.go:39", after := #[{ on := 38, ground := Ground.data }, { on := 39, ground := Ground.data }, { on := 38, ground := Ground.chain }, { on := 35, ground := Ground.guard }], guard := some (35, false) }) (by as_aux_lemma => kernel_rfl) (fun K hK => ?_) AllReadyH.nil
                      refine ite_want (by as_aux_lemma => kernel_rfl) ?_
                      go_simp
                      go_wp2_with fail
                      refine (HH5.out _).mono ?_
                      rintro r w15 ⟨rfl, hb15⟩
                      have HB15 : Hid (Below w.heap.size w w15) := by first | exact HB14.out.trans (hb15.mono HB14.out.size) | exact HB14.out.drew.trans (hb15.mono HB14.out.drew.size)
                      refine hK.out _ _ ⟨(hb15.cell (p := ⟨p7, 0, none⟩) (lt_of_cell hHeld.1)).trans hHeld.1, (hb15.cell (p := ⟨p7, 1, none⟩) (lt_of_cell hHeld.2.1)).trans hHeld.2.1, (hb15.cell (p := ⟨p8, 0, none⟩) (lt_of_cell hHeld.2.2.1)).trans hHeld.2.2.1, (hb15.cell (p := ⟨p8, 1, none⟩) (lt_of_cell hHeld.2.2.2.1)).trans hHeld.2.2.2.1, (hb15.cell (p := ⟨A, 0, none⟩) (lt_of_cell hHeld.2.2.2.2.1)).trans hHeld.2.2.2.2.1, (hb15.cell (p := ⟨A, 1, none⟩) (lt_of_cell hHeld.2.2.2.2.2.1)).trans hHeld.2.2.2.2.2.1, (hb15.cell (p := ⟨A, 2, none⟩) (lt_of_cell hHeld.2.2.2.2.2.2)).trans hHeld.2.2.2.2.2.2⟩ (fun hHeld => ?_)
                      clear hK K hb15
                      as_aux_lemma =>
                        refine wpAnyH_take (i := 41) (oi := { dst := some 81, op := Op.unOp UnOp.not 4 (Operand.tmp 80), type := 4, pos := "law.go:39", after := #[{ on := 40, ground := Ground.data }, { on := 35, ground := Ground.guard }], guard := some (35, false) }) (v := _) (by as_aux_lemma => kernel_rfl) (by as_aux_lemma => kernel_rfl) (by as_aux_lemma => kernel_rfl) (by as_aux_lemma => kernel_rfl) (by exact fun _ _ _ h => hQp _ _ _ _ _ h) (Or.inl ⟨by as_aux_lemma => kernel_rfl, by intro w' hSw; (try dsimp only at hSw); first | (go_simp; done) | (go_simp; with_reducible rfl)⟩) hHeld ?_
                        simp only [Act.put, List.setIfInBounds_toArray, List.set_cons_zero, List.set_cons_succ]
                        refine wpAnyH_take (i := 42) (oi := { dst := some 82, op := Op.pick (Operand.tmp 75) (Operand.const (Value.bool true)) (Operand.tmp 81), type := 4, pos := "law.go:39", after := #[{ on := 35, ground := Ground.data }, { on := 41, ground := Ground.data }], guard := none }) (v := _) (by as_aux_lemma => kernel_rfl) (by as_aux_lemma => kernel_rfl) (by as_aux_lemma => kernel_rfl) (by as_aux_lemma => kernel_rfl) (by exact fun _ _ _ h => hQp _ _ _ _ _ h) (Or.inl ⟨by as_aux_lemma => kernel_rfl, by intro w' hSw; (try dsimp only at hSw); first | (go_simp; done) | (go_simp; with_reducible rfl)⟩) hHeld ?_
                        simp only [Act.put, List.setIfInBounds_toArray, List.set_cons_zero, List.set_cons_succ]
                        refine wpAnyH_done (by as_aux_lemma => kernel_rfl) ?_ _
                        exact hfin _ HB15.out hHeld


theorem has_in (x y z u i0 i1 i2 : Int) (w : World) (hn : -2147483648 ≤ i2 ∧ i2 ≤ 2147483648) :
    Calls Try.prog 6 #[.agg #[.int .i64 x, .int .i64 y], .agg #[.int .i64 z, .int .i64 u], .agg #[.int .i64 i0, .int .i64 i1, .int .i64 i2]] w fun r w' => r = .returned (.bool true) ∧ Below w.heap.size w w' := by
  obtain ⟨h1, h2, h3⟩ := span_le x y
  obtain ⟨h4, h5, h6⟩ := span_le z u
  have HMa : Hid (∀ w, _) := fun w => made_any x y w
  have HMb : Hid (∀ w, _) := fun w => made_any z u w
  generalize mnF (capF x) (capF y) = a at *
  generalize mxF (capF x) (capF y) = b at *
  generalize mnF (capF z) (capF u) = c at *
  generalize mxF (capF z) (capF u) = d at *
  obtain ⟨w0, hw0⟩ : ∃ w0, w0 = ((w.alloc (.cells #[.int .i64 x, .int .i64 y] 60)).alloc (.cells #[.int .i64 z, .int .i64 u] 60)).alloc (.cells #[.int .i64 i0, .int .i64 i1, .int .i64 i2] 61) := ⟨_, rfl⟩
  have HB0 : Hid (Below w.heap.size w w0) := by rw [hw0]; exact (((Below.refl _ _).alloc (Nat.le_refl _) _).alloc (by simp) _).alloc (by simp; omega) _
  have hA0 : w0.heap[w.heap.size]? = some (.cells #[.int .i64 x, .int .i64 y] 60 (0, 0)) := by rw [hw0, Below.heap_alloc _ _ _ (by simp; omega), Below.heap_alloc _ _ _ (by simp)]; exact heap_alloc_new w _
  have hC0 : w0.heap[w.heap.size + 1]? = some (.cells #[.int .i64 z, .int .i64 u] 60 (0, 0)) := by
    have := heap_alloc_new (w.alloc (.cells #[.int .i64 x, .int .i64 y] 60)) (Obj.cells #[.int .i64 z, .int .i64 u] 60)
    rw [World.size_alloc] at this
    rw [hw0, Below.heap_alloc _ _ _ (by simp)]
    exact this
  have hE0 : w0.heap[w.heap.size + 1 + 1]? = some (.cells #[.int .i64 i0, .int .i64 i1, .int .i64 i2] 61 (0, 0)) := by
    have := heap_alloc_new ((w.alloc (.cells #[.int .i64 x, .int .i64 y] 60)).alloc (.cells #[.int .i64 z, .int .i64 u] 60)) (Obj.cells #[.int .i64 i0, .int .i64 i1, .int .i64 i2] 61)
    rw [World.size_alloc, World.size_alloc, ← hw0] at this
    exact this
  have hn1 : decide (i2 < -2147483648) = false := decide_eq_false (by omega)
  have hn2 : decide (2147483648 < i2) = false := decide_eq_false (by omega)
  go_enter Try.func6, Try.ntmps6
  go_wp2_with fail
  rw [← hw0]
  clear hw0
  refine (speaks_any _).mono ?_
  rintro r w1 ⟨rfl, hb1⟩
  have HB1 : Hid (Below w.heap.size w w1) := HB0.out.trans (hb1.mono HB0.out.size)
  have hA1 := (hb1.block _ (lt_of_heap hA0)).trans hA0
  have hC1 := (hb1.block _ (lt_of_heap hC0)).trans hC0
  have hE1 := (hb1.block _ (lt_of_heap hE0)).trans hE0
  clear hb1 hA0 hC0 hE0 HB0
  go_wp2_with fail
  refine has_reg3 w1 w.heap.size x y z u a b c d hA1 hC1 HMa.out HMb.out (by intro _ _ d _ _ h; cases d <;> exact h) (fun p7 p8 w2 hb2 hp7 hp8 hne hs ht => ?_)
  have hE2 := (hb2.block _ (lt_of_heap hE1)).trans hE1
  clear hA1 hC1 HMa HMb hE1
  have HB2 : Hid (Below w.heap.size w w2) := HB1.out.trans (hb2.mono HB1.out.size)
  obtain ⟨A, hA⟩ : ∃ A, w.heap.size + 1 + 1 = A := ⟨_, rfl⟩
  rw [hA] at hE2
  have hc2 : w2.cell? ⟨p7, 0, none⟩ = some (.int .i64 a) ∧ w2.cell? ⟨p7, 1, none⟩ = some (.int .i64 b) ∧ w2.cell? ⟨p8, 0, none⟩ = some (.int .i64 c) ∧ w2.cell? ⟨p8, 1, none⟩ = some (.int .i64 d) ∧ w2.cell? ⟨A, 0, none⟩ = some (.int .i64 i0) ∧ w2.cell? ⟨A, 1, none⟩ = some (.int .i64 i1) ∧ w2.cell? ⟨A, 2, none⟩ = some (.int .i64 i2) := ⟨cell_of_heap hs 0 _ rfl, cell_of_heap hs 1 _ rfl, cell_of_heap ht 0 _ rfl, cell_of_heap ht 1 _ rfl, cell_of_heap hE2 0 _ rfl, cell_of_heap hE2 1 _ rfl, cell_of_heap hE2 2 _ rfl⟩
  clear hb2 HB1 hs ht hp7 hp8 hne hE2
  have HO1 := fun w => of_any a b i0 w ⟨h1, h2, h3⟩
  have HO2 := fun w => of_any c d i1 w ⟨h4, h5, h6⟩
  have HO1' : Hid (∀ w, _) := HO1
  have HO2' : Hid (∀ w, _) := HO2
  clear HO1 HO2
  go_wp2_with fail
  rw [hA]
  refine wp_region_held_drew (S := fun W => W.cell? ⟨p7, 0, none⟩ = some (.int .i64 a) ∧ W.cell? ⟨p7, 1, none⟩ = some (.int .i64 b) ∧ W.cell? ⟨p8, 0, none⟩ = some (.int .i64 c) ∧ W.cell? ⟨p8, 1, none⟩ = some (.int .i64 d) ∧ W.cell? ⟨A, 0, none⟩ = some (.int .i64 i0) ∧ W.cell? ⟨A, 1, none⟩ = some (.int .i64 i1) ∧ W.cell? ⟨A, 2, none⟩ = some (.int .i64 i2)) (by kernel_rfl) (by exact hc2) (fun hHeld => ?_)
  change wpAnyH _ _ _ _ _ 10 (Array.replicate 10 false) _ _
  refine wpAnyH_take (i := 0) (oi := _) (v := _) (by simp only [List.getElem?_toArray, List.getElem?_cons_zero]; rfl) (by kernel_rfl) (by kernel_rfl) (by kernel_rfl) (by exact fun _ _ _ h => h) (Or.inl ⟨by rfl, by intro w' hSw; (try dsimp only at hSw); first | (go_simp; done) | (go_simp; with_reducible rfl)⟩) hHeld ?_
  simp only [Act.put, List.setIfInBounds_toArray, List.set_cons_zero, List.set_cons_succ]
  refine wpAnyH_take (i := 1) (oi := _) (v := _) (by simp only [List.getElem?_toArray, List.getElem?_cons_succ, List.getElem?_cons_zero]; rfl) (by kernel_rfl) (by kernel_rfl) (by kernel_rfl) (by exact fun _ _ _ h => h) (Or.inl ⟨by rfl, by intro w' hSw; (try dsimp only at hSw); first | (go_simp; done) | (go_simp; with_reducible rfl)⟩) hHeld ?_
  simp only [Act.put, List.setIfInBounds_toArray, List.set_cons_zero, List.set_cons_succ]
  refine wpAnyH_take (i := 2) (oi := _) (v := _) (by simp only [List.getElem?_toArray, List.getElem?_cons_succ, List.getElem?_cons_zero]; rfl) (by kernel_rfl) (by kernel_rfl) (by kernel_rfl) (by exact fun _ _ _ h => h) (Or.inl ⟨by rfl, by intro w' hSw; (try dsimp only at hSw); first | (go_simp; done) | (go_simp; with_reducible rfl)⟩) hHeld ?_
  simp only [Act.put, List.setIfInBounds_toArray, List.set_cons_zero, List.set_cons_succ]
  refine wpAnyH_take (i := 4) (oi := _) (v := _) (by simp only [List.getElem?_toArray, List.getElem?_cons_succ, List.getElem?_cons_zero]; rfl) (by kernel_rfl) (by kernel_rfl) (by kernel_rfl) (by exact fun _ _ _ h => h) (Or.inl ⟨by rfl, by intro w' hSw; (try dsimp only at hSw); first | (go_simp; done) | (go_simp; with_reducible rfl)⟩) hHeld ?_
  simp only [Act.put, List.setIfInBounds_toArray, List.set_cons_zero, List.set_cons_succ]
  refine wpAnyH_take (i := 5) (oi := _) (v := _) (by simp only [List.getElem?_toArray, List.getElem?_cons_succ, List.getElem?_cons_zero]; rfl) (by kernel_rfl) (by kernel_rfl) (by kernel_rfl) (by exact fun _ _ _ h => h) (Or.inl ⟨by rfl, by intro w' hSw; (try dsimp only at hSw); first | (go_simp; done) | (go_simp; with_reducible rfl)⟩) hHeld ?_
  simp only [Act.put, List.setIfInBounds_toArray, List.set_cons_zero, List.set_cons_succ]
  refine wpAnyH_take (i := 6) (oi := _) (v := _) (by simp only [List.getElem?_toArray, List.getElem?_cons_succ, List.getElem?_cons_zero]; rfl) (by kernel_rfl) (by kernel_rfl) (by kernel_rfl) (by exact fun _ _ _ h => h) (Or.inl ⟨by rfl, by intro w' hSw; (try dsimp only at hSw); first | (go_simp; done) | (go_simp; with_reducible rfl)⟩) hHeld ?_
  simp only [Act.put, List.setIfInBounds_toArray, List.set_cons_zero, List.set_cons_succ]
  refine wpAnyH_ready (rs := [3]) (by kernel_rfl) (by simp) ?_
  refine AllReadyH.cons rfl (fun K hK => ?_) AllReadyH.nil
  go_simp
  go_wp2_with fail
  refine (HO1'.out _).mono ?_
  rintro r w3 ⟨X, rfl, hX1, hX2, hb3⟩
  have HB3 : Hid (Below w.heap.size w w3) := by first | exact HB2.out.trans (hb3.mono HB2.out.size) | exact HB2.out.drew.trans (hb3.mono HB2.out.drew.size)
  refine hK.out _ _ ⟨(hb3.cell (p := ⟨p7, 0, none⟩) (lt_of_cell hHeld.1)).trans hHeld.1, (hb3.cell (p := ⟨p7, 1, none⟩) (lt_of_cell hHeld.2.1)).trans hHeld.2.1, (hb3.cell (p := ⟨p8, 0, none⟩) (lt_of_cell hHeld.2.2.1)).trans hHeld.2.2.1, (hb3.cell (p := ⟨p8, 1, none⟩) (lt_of_cell hHeld.2.2.2.1)).trans hHeld.2.2.2.1, (hb3.cell (p := ⟨A, 0, none⟩) (lt_of_cell hHeld.2.2.2.2.1)).trans hHeld.2.2.2.2.1, (hb3.cell (p := ⟨A, 1, none⟩) (lt_of_cell hHeld.2.2.2.2.2.1)).trans hHeld.2.2.2.2.2.1, (hb3.cell (p := ⟨A, 2, none⟩) (lt_of_cell hHeld.2.2.2.2.2.2)).trans hHeld.2.2.2.2.2.2⟩ (fun hHeld => ?_)
  clear hK K hb3
  refine wpAnyH_ready (rs := [7]) (by kernel_rfl) (by simp) ?_
  refine AllReadyH.cons rfl (fun K hK => ?_) AllReadyH.nil
  go_simp
  go_wp2_with fail
  refine (HO2'.out _).mono ?_
  rintro r w4 ⟨Y, rfl, hY1, hY2, hb4⟩
  have HB4 : Hid (Below w.heap.size w w4) := by first | exact HB3.out.trans (hb4.mono HB3.out.size) | exact HB3.out.drew.trans (hb4.mono HB3.out.drew.size)
  refine hK.out _ _ ⟨(hb4.cell (p := ⟨p7, 0, none⟩) (lt_of_cell hHeld.1)).trans hHeld.1, (hb4.cell (p := ⟨p7, 1, none⟩) (lt_of_cell hHeld.2.1)).trans hHeld.2.1, (hb4.cell (p := ⟨p8, 0, none⟩) (lt_of_cell hHeld.2.2.1)).trans hHeld.2.2.1, (hb4.cell (p := ⟨p8, 1, none⟩) (lt_of_cell hHeld.2.2.2.1)).trans hHeld.2.2.2.1, (hb4.cell (p := ⟨A, 0, none⟩) (lt_of_cell hHeld.2.2.2.2.1)).trans hHeld.2.2.2.2.1, (hb4.cell (p := ⟨A, 1, none⟩) (lt_of_cell hHeld.2.2.2.2.2.1)).trans hHeld.2.2.2.2.2.1, (hb4.cell (p := ⟨A, 2, none⟩) (lt_of_cell hHeld.2.2.2.2.2.2)).trans hHeld.2.2.2.2.2.2⟩ (fun hHeld => ?_)
  clear hK K hb4
  refine wpAnyH_take (i := 8) (oi := _) (v := _) (by simp only [List.getElem?_toArray, List.getElem?_cons_succ, List.getElem?_cons_zero]; rfl) (by kernel_rfl) (by kernel_rfl) (by kernel_rfl) (by exact fun _ _ _ h => h) (Or.inl ⟨by rfl, by intro w' hSw; (try dsimp only at hSw); first | (go_simp; done) | (go_simp; with_reducible rfl)⟩) hHeld ?_
  simp only [Act.put, List.setIfInBounds_toArray, List.set_cons_zero, List.set_cons_succ]
  refine wpAnyH_take (i := 9) (oi := _) (v := _) (by simp only [List.getElem?_toArray, List.getElem?_cons_succ, List.getElem?_cons_zero]; rfl) (by kernel_rfl) (by kernel_rfl) (by kernel_rfl) (by exact fun _ _ _ h => h) (Or.inl ⟨by rfl, by intro w' hSw; (try dsimp only at hSw); first | (go_simp; done) | (go_simp; with_reducible rfl)⟩) hHeld ?_
  simp only [Act.put, List.setIfInBounds_toArray, List.set_cons_zero, List.set_cons_succ]
  refine wpAnyH_done (by kernel_rfl) ?_ _
  clear HO1' HO2' hc2
  obtain ⟨mm, hmm⟩ : ∃ mm, mxF (i2) 0 = mm := ⟨_, rfl⟩
  have HMM : Hid (mxF (i2) 0 = mm) := hmm
  unfold mxF at hmm
  have hH4 := hHeld
  obtain ⟨_, _, _, _, _, _, q2⟩ := hHeld
  go_wp2_with fail
  obtain ⟨m, hm⟩ : ∃ m, i2 = m := ⟨_, rfl⟩
  have hm0 : -2147483648 ≤ m ∧ m ≤ 2147483648 := by omega
  rw [hm]
  rw [hm] at HMM
  skip
  clear hm hn1 hn hmm q2
  obtain ⟨ci, hci⟩ : ∃ Z, capF i0 = Z := ⟨_, rfl⟩
  obtain ⟨j, hj⟩ : ∃ Z, mnF a c = Z := ⟨_, rfl⟩
  obtain ⟨k, hk⟩ : ∃ Z, mxF b d = Z := ⟨_, rfl⟩
  have HC1 : Hid (∀ w, _) := fun w => cap_any i0 w
  have HC2 : Hid (∀ w, _) := fun w => refcap_any i0 w
  have HT : Hid (∀ w, _) := fun w => top_any w
  have HO : Hid (∀ w, _) := fun w => one_any X w
  have HJ : Hid (∀ w, _) := fun w => join_any a b c d w
  rw [hci] at HC1 HC2
  rw [capF_id (by omega) (by omega)] at HO
  rw [hj, hk] at HJ
  have hjk : j ≤ a ∧ j ≤ c ∧ b ≤ k ∧ d ≤ k := by rw [← hj, ← hk]; unfold mnF mxF; (repeat' split) <;> omega
  have HH1 : Hid (∀ w, Calls Try.prog 27 #[.agg #[.int .i64 (-1099511627776), .int .i64 1099511627776], .int .i64 X] w fun r w' => r = .returned (.bool true) ∧ Below w.heap.size w w') := fun w => by
    have h := has_any ((-1099511627776)) (1099511627776) (X) w
    rwa [decide_eq_true ⟨by omega, by omega⟩] at h
  have HH2 : Hid (∀ w, Calls Try.prog 27 #[.agg #[.int .i64 X, .int .i64 X], .int .i64 X] w fun r w' => r = .returned (.bool true) ∧ Below w.heap.size w w') := fun w => by
    have h := has_any (X) (X) (X) w
    rwa [decide_eq_true ⟨by omega, by omega⟩] at h
  have HH3 : Hid (∀ w, Calls Try.prog 27 #[.agg #[.int .i64 a, .int .i64 b], .int .i64 X] w fun r w' => r = .returned (.bool true) ∧ Below w.heap.size w w') := fun w => by
    have h := has_any (a) (b) (X) w
    rwa [decide_eq_true ⟨hX1, hX2⟩] at h
  have HH4 : Hid (∀ w, Calls Try.prog 27 #[.agg #[.int .i64 j, .int .i64 k], .int .i64 X] w fun r w' => r = .returned (.bool true) ∧ Below w.heap.size w w') := fun w => by
    have h := has_any (j) (k) (X) w
    rwa [decide_eq_true ⟨by omega, by omega⟩] at h
  have HH5 : Hid (∀ w, Calls Try.prog 27 #[.agg #[.int .i64 j, .int .i64 k], .int .i64 Y] w fun r w' => r = .returned (.bool true) ∧ Below w.heap.size w w') := fun w => by
    have h := has_any (j) (k) (Y) w
    rwa [decide_eq_true ⟨by omega, by omega⟩] at h
  clear hjk hj hk hci
  refine has_reg10 w w4 p7 p8 A a b c d X Y m mm i0 i1 i2 ci j k (by intro _ _ d _ _ h; cases d <;> exact h) HB4 hH4 HC1 HC2 HT HH1 HO HH2 HH3 HJ HH4 HH5 (fun w5 hb5 hc5 => ?_)
  have HB5 : Hid (Below w.heap.size w w5) := hb5
  obtain ⟨c0, c1, c2, c3, _, _, _⟩ := hc5
  clear hb5 hH4 HC1 HC2 HT HO HJ HH1 HH2 HH3 HH4 HH5 HB4 HB2
  obtain ⟨x0, hx0⟩ : ∃ Z, mxF X 0 = Z := ⟨_, rfl⟩
  obtain ⟨x1, hx1⟩ : ∃ Z, mnF x0 mm = Z := ⟨_, rfl⟩
  obtain ⟨u0, hu0⟩ : ∃ Z, (if m < 0 then capF (b * m) else capF (a * m)) = Z := ⟨_, rfl⟩
  obtain ⟨u1, hu1⟩ : ∃ Z, (if m < 0 then capF (a * m) else capF (b * m)) = Z := ⟨_, rfl⟩
  obtain ⟨u2, hu2⟩ : ∃ Z, capF (X * m) = Z := ⟨_, rfl⟩
  have HAdd : Hid (∀ w, _) := fun w => add_any a b c d w ⟨h1, by omega⟩ ⟨by omega, h3⟩ ⟨h4, by omega⟩ ⟨by omega, h6⟩
  have HSub : Hid (∀ w, _) := fun w => sub_any a b c d w ⟨h1, by omega⟩ ⟨by omega, h3⟩ ⟨h4, by omega⟩ ⟨by omega, h6⟩
  have HMul : Hid (∀ w, _) := fun w => mul_any a b m w ⟨h1, by omega⟩ ⟨by omega, h3⟩ hm0
  have HTm : Hid (∀ w, _) := fun w => times_any X m w ⟨by omega, by omega⟩ hm0
  have HCl : Hid (∀ w, _) := fun w => clamp_any a b mm w
  have HCa : Hid (∀ w, _) := fun w => refcap_any (X + Y) w
  have HCs : Hid (∀ w, _) := fun w => refcap_any (X - Y) w
  rw [hu0, hu1] at HMul
  rw [hu2] at HTm
  have hmul := mul_has (m := m) hX1 hX2
  rw [hu0, hu1, hu2] at hmul
  have hclamp : nearF a 0 mm ≤ x1 ∧ x1 ≤ nearF b 0 mm := by
    rw [show x1 = nearF X 0 mm by rw [← hx1, ← hx0]; rfl]
    exact ⟨nearF_mono hX1, nearF_mono hX2⟩
  have ha := capF_mono (show a + c ≤ X + Y by omega)
  have hb := capF_mono (show X + Y ≤ b + d by omega)
  have hc := capF_mono (show a - d ≤ X - Y by omega)
  have hd := capF_mono (show X - Y ≤ b - c by omega)
  have HH1 : Hid (∀ w, Calls Try.prog 27 #[.agg #[.int .i64 (capF (a + c)), .int .i64 (capF (b + d))], .int .i64 (capF (X + Y))] w fun r w' => r = .returned (.bool true) ∧ Below w.heap.size w w') := fun w => by
    have h := has_any (capF (a + c)) (capF (b + d)) (capF (X + Y)) w
    rwa [decide_eq_true ⟨ha, hb⟩] at h
  have HH2 : Hid (∀ w, Calls Try.prog 27 #[.agg #[.int .i64 (capF (a - d)), .int .i64 (capF (b - c))], .int .i64 (capF (X - Y))] w fun r w' => r = .returned (.bool true) ∧ Below w.heap.size w w') := fun w => by
    have h := has_any (capF (a - d)) (capF (b - c)) (capF (X - Y)) w
    rwa [decide_eq_true ⟨hc, hd⟩] at h
  have HH3 : Hid (∀ w, Calls Try.prog 27 #[.agg #[.int .i64 u0, .int .i64 u1], .int .i64 u2] w fun r w' => r = .returned (.bool true) ∧ Below w.heap.size w w') := fun w => by
    have h := has_any (u0) (u1) (u2) w
    rwa [decide_eq_true hmul] at h
  have HH4 : Hid (∀ w, Calls Try.prog 27 #[.agg #[.int .i64 (nearF a 0 mm), .int .i64 (nearF b 0 mm)], .int .i64 x1] w fun r w' => r = .returned (.bool true) ∧ Below w.heap.size w w') := fun w => by
    have h := has_any (nearF a 0 mm) (nearF b 0 mm) (x1) w
    rwa [decide_eq_true hclamp] at h
  have hw1 : IntKind.i64.wrap (X + Y) = X + Y := IntWalk.i64_in _ (by omega)
  have hw2 : IntKind.i64.wrap (X - Y) = X - Y := IntWalk.i64_in _ (by omega)
  have HU : Hid (∀ w : World, w = w) := fun _ => rfl
  clear ha hb hc hd hmul hclamp hu0 hu1 hu2 h1 h2 h3 h4 h5 h6 hm0 hX1 hX2 hY1 hY2
  unfold mxF at hx0
  unfold mnF at hx1
  generalize capF (a + c) = g1 at *
  generalize capF (b + d) = g2 at *
  generalize capF (X + Y) = g3 at *
  generalize capF (a - d) = g4 at *
  generalize capF (b - c) = g5 at *
  generalize capF (X - Y) = g6 at *
  generalize nearF a 0 mm = g7 at *
  generalize nearF b 0 mm = g8 at *
  go_wp2_with fail
  refine (HAdd.out _).mono ?_
  rintro r w6 ⟨rfl, hb6⟩
  have HB6 : Hid (Below w.heap.size w w6) := by first | exact HB5.out.trans (hb6.mono HB5.out.size) | exact HB5.out.drew.trans (hb6.mono HB5.out.drew.size)
  have hS6 : w6.cell? ⟨p7, 0, none⟩ = some (.int .i64 a) ∧ w6.cell? ⟨p7, 1, none⟩ = some (.int .i64 b) ∧ w6.cell? ⟨p8, 0, none⟩ = some (.int .i64 c) ∧ w6.cell? ⟨p8, 1, none⟩ = some (.int .i64 d) := ⟨(hb6.cell (p := ⟨p7, 0, none⟩) (lt_of_cell c0)).trans c0, (hb6.cell (p := ⟨p7, 1, none⟩) (lt_of_cell c1)).trans c1, (hb6.cell (p := ⟨p8, 0, none⟩) (lt_of_cell c2)).trans c2, (hb6.cell (p := ⟨p8, 1, none⟩) (lt_of_cell c3)).trans c3⟩
  clear hb6 c0 c1 c2 c3 HB5
  obtain ⟨c0, c1, c2, c3⟩ := hS6
  go_wp2_with fail
  refine (HCa.out _).mono ?_
  rintro r w7 ⟨rfl, hw7⟩
  have HB7 : Hid (Below w.heap.size w w7) := by rw [hw7]; first | exact HB6.out | exact HB6.out.drew
  have hS7 : w7.cell? ⟨p7, 0, none⟩ = some (.int .i64 a) ∧ w7.cell? ⟨p7, 1, none⟩ = some (.int .i64 b) ∧ w7.cell? ⟨p8, 0, none⟩ = some (.int .i64 c) ∧ w7.cell? ⟨p8, 1, none⟩ = some (.int .i64 d) := by rw [hw7]; exact ⟨c0, c1, c2, c3⟩
  clear hw7 c0 c1 c2 c3 HB6
  obtain ⟨c0, c1, c2, c3⟩ := hS7
  go_wp2_with fail
  refine (HH1.out _).mono ?_
  rintro r w8 ⟨rfl, hb8⟩
  have HB8 : Hid (Below w.heap.size w w8) := by first | exact HB7.out.trans (hb8.mono HB7.out.size) | exact HB7.out.drew.trans (hb8.mono HB7.out.drew.size)
  have hS8 : w8.cell? ⟨p7, 0, none⟩ = some (.int .i64 a) ∧ w8.cell? ⟨p7, 1, none⟩ = some (.int .i64 b) ∧ w8.cell? ⟨p8, 0, none⟩ = some (.int .i64 c) ∧ w8.cell? ⟨p8, 1, none⟩ = some (.int .i64 d) := ⟨(hb8.cell (p := ⟨p7, 0, none⟩) (lt_of_cell c0)).trans c0, (hb8.cell (p := ⟨p7, 1, none⟩) (lt_of_cell c1)).trans c1, (hb8.cell (p := ⟨p8, 0, none⟩) (lt_of_cell c2)).trans c2, (hb8.cell (p := ⟨p8, 1, none⟩) (lt_of_cell c3)).trans c3⟩
  clear hb8 c0 c1 c2 c3 HB7
  obtain ⟨c0, c1, c2, c3⟩ := hS8
  go_wp2_with fail
  refine (HSub.out _).mono ?_
  rintro r w9 ⟨rfl, hb9⟩
  have HB9 : Hid (Below w.heap.size w w9) := by first | exact HB8.out.trans (hb9.mono HB8.out.size) | exact HB8.out.drew.trans (hb9.mono HB8.out.drew.size)
  have hS9 : w9.cell? ⟨p7, 0, none⟩ = some (.int .i64 a) ∧ w9.cell? ⟨p7, 1, none⟩ = some (.int .i64 b) ∧ w9.cell? ⟨p8, 0, none⟩ = some (.int .i64 c) ∧ w9.cell? ⟨p8, 1, none⟩ = some (.int .i64 d) := ⟨(hb9.cell (p := ⟨p7, 0, none⟩) (lt_of_cell c0)).trans c0, (hb9.cell (p := ⟨p7, 1, none⟩) (lt_of_cell c1)).trans c1, (hb9.cell (p := ⟨p8, 0, none⟩) (lt_of_cell c2)).trans c2, (hb9.cell (p := ⟨p8, 1, none⟩) (lt_of_cell c3)).trans c3⟩
  clear hb9 c0 c1 c2 c3 HB8
  obtain ⟨c0, c1, c2, c3⟩ := hS9
  go_wp2_with fail
  refine (HCs.out _).mono ?_
  rintro r w10 ⟨rfl, hw10⟩
  have HB10 : Hid (Below w.heap.size w w10) := by rw [hw10]; first | exact HB9.out | exact HB9.out.drew
  have hS10 : w10.cell? ⟨p7, 0, none⟩ = some (.int .i64 a) ∧ w10.cell? ⟨p7, 1, none⟩ = some (.int .i64 b) ∧ w10.cell? ⟨p8, 0, none⟩ = some (.int .i64 c) ∧ w10.cell? ⟨p8, 1, none⟩ = some (.int .i64 d) := by rw [hw10]; exact ⟨c0, c1, c2, c3⟩
  clear hw10 c0 c1 c2 c3 HB9
  obtain ⟨c0, c1, c2, c3⟩ := hS10
  go_wp2_with fail
  refine (HH2.out _).mono ?_
  rintro r w11 ⟨rfl, hb11⟩
  have HB11 : Hid (Below w.heap.size w w11) := by first | exact HB10.out.trans (hb11.mono HB10.out.size) | exact HB10.out.drew.trans (hb11.mono HB10.out.drew.size)
  have hS11 : w11.cell? ⟨p7, 0, none⟩ = some (.int .i64 a) ∧ w11.cell? ⟨p7, 1, none⟩ = some (.int .i64 b) ∧ w11.cell? ⟨p8, 0, none⟩ = some (.int .i64 c) ∧ w11.cell? ⟨p8, 1, none⟩ = some (.int .i64 d) := ⟨(hb11.cell (p := ⟨p7, 0, none⟩) (lt_of_cell c0)).trans c0, (hb11.cell (p := ⟨p7, 1, none⟩) (lt_of_cell c1)).trans c1, (hb11.cell (p := ⟨p8, 0, none⟩) (lt_of_cell c2)).trans c2, (hb11.cell (p := ⟨p8, 1, none⟩) (lt_of_cell c3)).trans c3⟩
  clear hb11 c0 c1 c2 c3 HB10
  obtain ⟨c0, c1, c2, c3⟩ := hS11
  go_wp2_with fail
  refine (HMul.out _).mono ?_
  rintro r w12 ⟨rfl, hb12⟩
  have HB12 : Hid (Below w.heap.size w w12) := by first | exact HB11.out.trans (hb12.mono HB11.out.size) | exact HB11.out.drew.trans (hb12.mono HB11.out.drew.size)
  have hS12 : w12.cell? ⟨p7, 0, none⟩ = some (.int .i64 a) ∧ w12.cell? ⟨p7, 1, none⟩ = some (.int .i64 b) ∧ w12.cell? ⟨p8, 0, none⟩ = some (.int .i64 c) ∧ w12.cell? ⟨p8, 1, none⟩ = some (.int .i64 d) := ⟨(hb12.cell (p := ⟨p7, 0, none⟩) (lt_of_cell c0)).trans c0, (hb12.cell (p := ⟨p7, 1, none⟩) (lt_of_cell c1)).trans c1, (hb12.cell (p := ⟨p8, 0, none⟩) (lt_of_cell c2)).trans c2, (hb12.cell (p := ⟨p8, 1, none⟩) (lt_of_cell c3)).trans c3⟩
  clear hb12 c0 c1 c2 c3 HB11
  obtain ⟨c0, c1, c2, c3⟩ := hS12
  go_wp2_with fail
  refine (HTm.out _).mono ?_
  rintro r w13 ⟨rfl, hw13⟩
  have HB13 : Hid (Below w.heap.size w w13) := by rw [hw13]; first | exact HB12.out | exact HB12.out.drew
  have hS13 : w13.cell? ⟨p7, 0, none⟩ = some (.int .i64 a) ∧ w13.cell? ⟨p7, 1, none⟩ = some (.int .i64 b) ∧ w13.cell? ⟨p8, 0, none⟩ = some (.int .i64 c) ∧ w13.cell? ⟨p8, 1, none⟩ = some (.int .i64 d) := by rw [hw13]; exact ⟨c0, c1, c2, c3⟩
  clear hw13 c0 c1 c2 c3 HB12
  obtain ⟨c0, c1, c2, c3⟩ := hS13
  go_wp2_with fail
  refine (HH3.out _).mono ?_
  rintro r w14 ⟨rfl, hb14⟩
  have HB14 : Hid (Below w.heap.size w w14) := by first | exact HB13.out.trans (hb14.mono HB13.out.size) | exact HB13.out.drew.trans (hb14.mono HB13.out.drew.size)
  have hS14 : w14.cell? ⟨p7, 0, none⟩ = some (.int .i64 a) ∧ w14.cell? ⟨p7, 1, none⟩ = some (.int .i64 b) ∧ w14.cell? ⟨p8, 0, none⟩ = some (.int .i64 c) ∧ w14.cell? ⟨p8, 1, none⟩ = some (.int .i64 d) := ⟨(hb14.cell (p := ⟨p7, 0, none⟩) (lt_of_cell c0)).trans c0, (hb14.cell (p := ⟨p7, 1, none⟩) (lt_of_cell c1)).trans c1, (hb14.cell (p := ⟨p8, 0, none⟩) (lt_of_cell c2)).trans c2, (hb14.cell (p := ⟨p8, 1, none⟩) (lt_of_cell c3)).trans c3⟩
  clear hb14 c0 c1 c2 c3 HB13
  obtain ⟨c0, c1, c2, c3⟩ := hS14
  go_wp2_with fail
  refine (HCl.out _).mono ?_
  rintro r w15 ⟨rfl, hb15⟩
  have HB15 : Hid (Below w.heap.size w w15) := by first | exact HB14.out.trans (hb15.mono HB14.out.size) | exact HB14.out.drew.trans (hb15.mono HB14.out.drew.size)
  have hS15 : w15.cell? ⟨p7, 0, none⟩ = some (.int .i64 a) ∧ w15.cell? ⟨p7, 1, none⟩ = some (.int .i64 b) ∧ w15.cell? ⟨p8, 0, none⟩ = some (.int .i64 c) ∧ w15.cell? ⟨p8, 1, none⟩ = some (.int .i64 d) := ⟨(hb15.cell (p := ⟨p7, 0, none⟩) (lt_of_cell c0)).trans c0, (hb15.cell (p := ⟨p7, 1, none⟩) (lt_of_cell c1)).trans c1, (hb15.cell (p := ⟨p8, 0, none⟩) (lt_of_cell c2)).trans c2, (hb15.cell (p := ⟨p8, 1, none⟩) (lt_of_cell c3)).trans c3⟩
  clear hb15 c0 c1 c2 c3 HB14
  obtain ⟨c0, c1, c2, c3⟩ := hS15
  go_wp2_with fail
  refine (HH4.out _).mono ?_
  rintro r w16 ⟨rfl, hb16⟩
  have HB16 : Hid (Below w.heap.size w w16) := by first | exact HB15.out.trans (hb16.mono HB15.out.size) | exact HB15.out.drew.trans (hb16.mono HB15.out.drew.size)
  have hS16 : w16.cell? ⟨p7, 0, none⟩ = some (.int .i64 a) ∧ w16.cell? ⟨p7, 1, none⟩ = some (.int .i64 b) ∧ w16.cell? ⟨p8, 0, none⟩ = some (.int .i64 c) ∧ w16.cell? ⟨p8, 1, none⟩ = some (.int .i64 d) := ⟨(hb16.cell (p := ⟨p7, 0, none⟩) (lt_of_cell c0)).trans c0, (hb16.cell (p := ⟨p7, 1, none⟩) (lt_of_cell c1)).trans c1, (hb16.cell (p := ⟨p8, 0, none⟩) (lt_of_cell c2)).trans c2, (hb16.cell (p := ⟨p8, 1, none⟩) (lt_of_cell c3)).trans c3⟩
  clear hb16 c0 c1 c2 c3 HB15
  obtain ⟨c0, c1, c2, c3⟩ := hS16
  go_wp2_with fail
  go_ret
  exact ⟨rfl, HB16.out⟩

theorem has_lo (x y z u i0 i1 i2 : Int) (w : World) (hn : i2 < -2147483648) :
    Calls Try.prog 6 #[.agg #[.int .i64 x, .int .i64 y], .agg #[.int .i64 z, .int .i64 u], .agg #[.int .i64 i0, .int .i64 i1, .int .i64 i2]] w fun r w' => r = .returned (.bool true) ∧ Below w.heap.size w w' := by
  obtain ⟨h1, h2, h3⟩ := span_le x y
  obtain ⟨h4, h5, h6⟩ := span_le z u
  have HMa : Hid (∀ w, _) := fun w => made_any x y w
  have HMb : Hid (∀ w, _) := fun w => made_any z u w
  generalize mnF (capF x) (capF y) = a at *
  generalize mxF (capF x) (capF y) = b at *
  generalize mnF (capF z) (capF u) = c at *
  generalize mxF (capF z) (capF u) = d at *
  obtain ⟨w0, hw0⟩ : ∃ w0, w0 = ((w.alloc (.cells #[.int .i64 x, .int .i64 y] 60)).alloc (.cells #[.int .i64 z, .int .i64 u] 60)).alloc (.cells #[.int .i64 i0, .int .i64 i1, .int .i64 i2] 61) := ⟨_, rfl⟩
  have HB0 : Hid (Below w.heap.size w w0) := by rw [hw0]; exact (((Below.refl _ _).alloc (Nat.le_refl _) _).alloc (by simp) _).alloc (by simp; omega) _
  have hA0 : w0.heap[w.heap.size]? = some (.cells #[.int .i64 x, .int .i64 y] 60 (0, 0)) := by rw [hw0, Below.heap_alloc _ _ _ (by simp; omega), Below.heap_alloc _ _ _ (by simp)]; exact heap_alloc_new w _
  have hC0 : w0.heap[w.heap.size + 1]? = some (.cells #[.int .i64 z, .int .i64 u] 60 (0, 0)) := by
    have := heap_alloc_new (w.alloc (.cells #[.int .i64 x, .int .i64 y] 60)) (Obj.cells #[.int .i64 z, .int .i64 u] 60)
    rw [World.size_alloc] at this
    rw [hw0, Below.heap_alloc _ _ _ (by simp)]
    exact this
  have hE0 : w0.heap[w.heap.size + 1 + 1]? = some (.cells #[.int .i64 i0, .int .i64 i1, .int .i64 i2] 61 (0, 0)) := by
    have := heap_alloc_new ((w.alloc (.cells #[.int .i64 x, .int .i64 y] 60)).alloc (.cells #[.int .i64 z, .int .i64 u] 60)) (Obj.cells #[.int .i64 i0, .int .i64 i1, .int .i64 i2] 61)
    rw [World.size_alloc, World.size_alloc, ← hw0] at this
    exact this
  have hn1 : decide (i2 < -2147483648) = true := decide_eq_true hn
  go_enter Try.func6, Try.ntmps6
  go_wp2_with fail
  rw [← hw0]
  clear hw0
  refine (speaks_any _).mono ?_
  rintro r w1 ⟨rfl, hb1⟩
  have HB1 : Hid (Below w.heap.size w w1) := HB0.out.trans (hb1.mono HB0.out.size)
  have hA1 := (hb1.block _ (lt_of_heap hA0)).trans hA0
  have hC1 := (hb1.block _ (lt_of_heap hC0)).trans hC0
  have hE1 := (hb1.block _ (lt_of_heap hE0)).trans hE0
  clear hb1 hA0 hC0 hE0 HB0
  go_wp2_with fail
  refine has_reg3 w1 w.heap.size x y z u a b c d hA1 hC1 HMa.out HMb.out (by intro _ _ d _ _ h; cases d <;> exact h) (fun p7 p8 w2 hb2 hp7 hp8 hne hs ht => ?_)
  have hE2 := (hb2.block _ (lt_of_heap hE1)).trans hE1
  clear hA1 hC1 HMa HMb hE1
  have HB2 : Hid (Below w.heap.size w w2) := HB1.out.trans (hb2.mono HB1.out.size)
  obtain ⟨A, hA⟩ : ∃ A, w.heap.size + 1 + 1 = A := ⟨_, rfl⟩
  rw [hA] at hE2
  have hc2 : w2.cell? ⟨p7, 0, none⟩ = some (.int .i64 a) ∧ w2.cell? ⟨p7, 1, none⟩ = some (.int .i64 b) ∧ w2.cell? ⟨p8, 0, none⟩ = some (.int .i64 c) ∧ w2.cell? ⟨p8, 1, none⟩ = some (.int .i64 d) ∧ w2.cell? ⟨A, 0, none⟩ = some (.int .i64 i0) ∧ w2.cell? ⟨A, 1, none⟩ = some (.int .i64 i1) ∧ w2.cell? ⟨A, 2, none⟩ = some (.int .i64 i2) := ⟨cell_of_heap hs 0 _ rfl, cell_of_heap hs 1 _ rfl, cell_of_heap ht 0 _ rfl, cell_of_heap ht 1 _ rfl, cell_of_heap hE2 0 _ rfl, cell_of_heap hE2 1 _ rfl, cell_of_heap hE2 2 _ rfl⟩
  clear hb2 HB1 hs ht hp7 hp8 hne hE2
  have HO1 := fun w => of_any a b i0 w ⟨h1, h2, h3⟩
  have HO2 := fun w => of_any c d i1 w ⟨h4, h5, h6⟩
  have HO1' : Hid (∀ w, _) := HO1
  have HO2' : Hid (∀ w, _) := HO2
  clear HO1 HO2
  go_wp2_with fail
  rw [hA]
  refine wp_region_held_drew (S := fun W => W.cell? ⟨p7, 0, none⟩ = some (.int .i64 a) ∧ W.cell? ⟨p7, 1, none⟩ = some (.int .i64 b) ∧ W.cell? ⟨p8, 0, none⟩ = some (.int .i64 c) ∧ W.cell? ⟨p8, 1, none⟩ = some (.int .i64 d) ∧ W.cell? ⟨A, 0, none⟩ = some (.int .i64 i0) ∧ W.cell? ⟨A, 1, none⟩ = some (.int .i64 i1) ∧ W.cell? ⟨A, 2, none⟩ = some (.int .i64 i2)) (by kernel_rfl) (by exact hc2) (fun hHeld => ?_)
  change wpAnyH _ _ _ _ _ 10 (Array.replicate 10 false) _ _
  refine wpAnyH_take (i := 0) (oi := _) (v := _) (by simp only [List.getElem?_toArray, List.getElem?_cons_zero]; rfl) (by kernel_rfl) (by kernel_rfl) (by kernel_rfl) (by exact fun _ _ _ h => h) (Or.inl ⟨by rfl, by intro w' hSw; (try dsimp only at hSw); first | (go_simp; done) | (go_simp; with_reducible rfl)⟩) hHeld ?_
  simp only [Act.put, List.setIfInBounds_toArray, List.set_cons_zero, List.set_cons_succ]
  refine wpAnyH_take (i := 1) (oi := _) (v := _) (by simp only [List.getElem?_toArray, List.getElem?_cons_succ, List.getElem?_cons_zero]; rfl) (by kernel_rfl) (by kernel_rfl) (by kernel_rfl) (by exact fun _ _ _ h => h) (Or.inl ⟨by rfl, by intro w' hSw; (try dsimp only at hSw); first | (go_simp; done) | (go_simp; with_reducible rfl)⟩) hHeld ?_
  simp only [Act.put, List.setIfInBounds_toArray, List.set_cons_zero, List.set_cons_succ]
  refine wpAnyH_take (i := 2) (oi := _) (v := _) (by simp only [List.getElem?_toArray, List.getElem?_cons_succ, List.getElem?_cons_zero]; rfl) (by kernel_rfl) (by kernel_rfl) (by kernel_rfl) (by exact fun _ _ _ h => h) (Or.inl ⟨by rfl, by intro w' hSw; (try dsimp only at hSw); first | (go_simp; done) | (go_simp; with_reducible rfl)⟩) hHeld ?_
  simp only [Act.put, List.setIfInBounds_toArray, List.set_cons_zero, List.set_cons_succ]
  refine wpAnyH_take (i := 4) (oi := _) (v := _) (by simp only [List.getElem?_toArray, List.getElem?_cons_succ, List.getElem?_cons_zero]; rfl) (by kernel_rfl) (by kernel_rfl) (by kernel_rfl) (by exact fun _ _ _ h => h) (Or.inl ⟨by rfl, by intro w' hSw; (try dsimp only at hSw); first | (go_simp; done) | (go_simp; with_reducible rfl)⟩) hHeld ?_
  simp only [Act.put, List.setIfInBounds_toArray, List.set_cons_zero, List.set_cons_succ]
  refine wpAnyH_take (i := 5) (oi := _) (v := _) (by simp only [List.getElem?_toArray, List.getElem?_cons_succ, List.getElem?_cons_zero]; rfl) (by kernel_rfl) (by kernel_rfl) (by kernel_rfl) (by exact fun _ _ _ h => h) (Or.inl ⟨by rfl, by intro w' hSw; (try dsimp only at hSw); first | (go_simp; done) | (go_simp; with_reducible rfl)⟩) hHeld ?_
  simp only [Act.put, List.setIfInBounds_toArray, List.set_cons_zero, List.set_cons_succ]
  refine wpAnyH_take (i := 6) (oi := _) (v := _) (by simp only [List.getElem?_toArray, List.getElem?_cons_succ, List.getElem?_cons_zero]; rfl) (by kernel_rfl) (by kernel_rfl) (by kernel_rfl) (by exact fun _ _ _ h => h) (Or.inl ⟨by rfl, by intro w' hSw; (try dsimp only at hSw); first | (go_simp; done) | (go_simp; with_reducible rfl)⟩) hHeld ?_
  simp only [Act.put, List.setIfInBounds_toArray, List.set_cons_zero, List.set_cons_succ]
  refine wpAnyH_ready (rs := [3]) (by kernel_rfl) (by simp) ?_
  refine AllReadyH.cons rfl (fun K hK => ?_) AllReadyH.nil
  go_simp
  go_wp2_with fail
  refine (HO1'.out _).mono ?_
  rintro r w3 ⟨X, rfl, hX1, hX2, hb3⟩
  have HB3 : Hid (Below w.heap.size w w3) := by first | exact HB2.out.trans (hb3.mono HB2.out.size) | exact HB2.out.drew.trans (hb3.mono HB2.out.drew.size)
  refine hK.out _ _ ⟨(hb3.cell (p := ⟨p7, 0, none⟩) (lt_of_cell hHeld.1)).trans hHeld.1, (hb3.cell (p := ⟨p7, 1, none⟩) (lt_of_cell hHeld.2.1)).trans hHeld.2.1, (hb3.cell (p := ⟨p8, 0, none⟩) (lt_of_cell hHeld.2.2.1)).trans hHeld.2.2.1, (hb3.cell (p := ⟨p8, 1, none⟩) (lt_of_cell hHeld.2.2.2.1)).trans hHeld.2.2.2.1, (hb3.cell (p := ⟨A, 0, none⟩) (lt_of_cell hHeld.2.2.2.2.1)).trans hHeld.2.2.2.2.1, (hb3.cell (p := ⟨A, 1, none⟩) (lt_of_cell hHeld.2.2.2.2.2.1)).trans hHeld.2.2.2.2.2.1, (hb3.cell (p := ⟨A, 2, none⟩) (lt_of_cell hHeld.2.2.2.2.2.2)).trans hHeld.2.2.2.2.2.2⟩ (fun hHeld => ?_)
  clear hK K hb3
  refine wpAnyH_ready (rs := [7]) (by kernel_rfl) (by simp) ?_
  refine AllReadyH.cons rfl (fun K hK => ?_) AllReadyH.nil
  go_simp
  go_wp2_with fail
  refine (HO2'.out _).mono ?_
  rintro r w4 ⟨Y, rfl, hY1, hY2, hb4⟩
  have HB4 : Hid (Below w.heap.size w w4) := by first | exact HB3.out.trans (hb4.mono HB3.out.size) | exact HB3.out.drew.trans (hb4.mono HB3.out.drew.size)
  refine hK.out _ _ ⟨(hb4.cell (p := ⟨p7, 0, none⟩) (lt_of_cell hHeld.1)).trans hHeld.1, (hb4.cell (p := ⟨p7, 1, none⟩) (lt_of_cell hHeld.2.1)).trans hHeld.2.1, (hb4.cell (p := ⟨p8, 0, none⟩) (lt_of_cell hHeld.2.2.1)).trans hHeld.2.2.1, (hb4.cell (p := ⟨p8, 1, none⟩) (lt_of_cell hHeld.2.2.2.1)).trans hHeld.2.2.2.1, (hb4.cell (p := ⟨A, 0, none⟩) (lt_of_cell hHeld.2.2.2.2.1)).trans hHeld.2.2.2.2.1, (hb4.cell (p := ⟨A, 1, none⟩) (lt_of_cell hHeld.2.2.2.2.2.1)).trans hHeld.2.2.2.2.2.1, (hb4.cell (p := ⟨A, 2, none⟩) (lt_of_cell hHeld.2.2.2.2.2.2)).trans hHeld.2.2.2.2.2.2⟩ (fun hHeld => ?_)
  clear hK K hb4
  refine wpAnyH_take (i := 8) (oi := _) (v := _) (by simp only [List.getElem?_toArray, List.getElem?_cons_succ, List.getElem?_cons_zero]; rfl) (by kernel_rfl) (by kernel_rfl) (by kernel_rfl) (by exact fun _ _ _ h => h) (Or.inl ⟨by rfl, by intro w' hSw; (try dsimp only at hSw); first | (go_simp; done) | (go_simp; with_reducible rfl)⟩) hHeld ?_
  simp only [Act.put, List.setIfInBounds_toArray, List.set_cons_zero, List.set_cons_succ]
  refine wpAnyH_take (i := 9) (oi := _) (v := _) (by simp only [List.getElem?_toArray, List.getElem?_cons_succ, List.getElem?_cons_zero]; rfl) (by kernel_rfl) (by kernel_rfl) (by kernel_rfl) (by exact fun _ _ _ h => h) (Or.inl ⟨by rfl, by intro w' hSw; (try dsimp only at hSw); first | (go_simp; done) | (go_simp; with_reducible rfl)⟩) hHeld ?_
  simp only [Act.put, List.setIfInBounds_toArray, List.set_cons_zero, List.set_cons_succ]
  refine wpAnyH_done (by kernel_rfl) ?_ _
  clear HO1' HO2' hc2
  obtain ⟨mm, hmm⟩ : ∃ mm, mxF (i2.tmod 2147483648) 0 = mm := ⟨_, rfl⟩
  have HMM : Hid (mxF (i2.tmod 2147483648) 0 = mm) := hmm
  unfold mxF at hmm
  have hH4 := hHeld
  obtain ⟨_, _, _, _, _, _, q2⟩ := hHeld
  go_wp2_with fail
  obtain ⟨m, hm⟩ : ∃ m, i2.tmod 2147483648 = m := ⟨_, rfl⟩
  have hm0 : -2147483648 ≤ m ∧ m ≤ 2147483648 := by have a1 := Int.lt_tmod_of_pos i2 (show (0 : Int) < 2147483648 by decide); have a2 := Int.tmod_lt_of_pos i2 (show (0 : Int) < 2147483648 by decide); omega
  rw [hm]
  rw [hm] at HMM
  skip
  clear hm hn1 hn hmm q2
  obtain ⟨ci, hci⟩ : ∃ Z, capF i0 = Z := ⟨_, rfl⟩
  obtain ⟨j, hj⟩ : ∃ Z, mnF a c = Z := ⟨_, rfl⟩
  obtain ⟨k, hk⟩ : ∃ Z, mxF b d = Z := ⟨_, rfl⟩
  have HC1 : Hid (∀ w, _) := fun w => cap_any i0 w
  have HC2 : Hid (∀ w, _) := fun w => refcap_any i0 w
  have HT : Hid (∀ w, _) := fun w => top_any w
  have HO : Hid (∀ w, _) := fun w => one_any X w
  have HJ : Hid (∀ w, _) := fun w => join_any a b c d w
  rw [hci] at HC1 HC2
  rw [capF_id (by omega) (by omega)] at HO
  rw [hj, hk] at HJ
  have hjk : j ≤ a ∧ j ≤ c ∧ b ≤ k ∧ d ≤ k := by rw [← hj, ← hk]; unfold mnF mxF; (repeat' split) <;> omega
  have HH1 : Hid (∀ w, Calls Try.prog 27 #[.agg #[.int .i64 (-1099511627776), .int .i64 1099511627776], .int .i64 X] w fun r w' => r = .returned (.bool true) ∧ Below w.heap.size w w') := fun w => by
    have h := has_any ((-1099511627776)) (1099511627776) (X) w
    rwa [decide_eq_true ⟨by omega, by omega⟩] at h
  have HH2 : Hid (∀ w, Calls Try.prog 27 #[.agg #[.int .i64 X, .int .i64 X], .int .i64 X] w fun r w' => r = .returned (.bool true) ∧ Below w.heap.size w w') := fun w => by
    have h := has_any (X) (X) (X) w
    rwa [decide_eq_true ⟨by omega, by omega⟩] at h
  have HH3 : Hid (∀ w, Calls Try.prog 27 #[.agg #[.int .i64 a, .int .i64 b], .int .i64 X] w fun r w' => r = .returned (.bool true) ∧ Below w.heap.size w w') := fun w => by
    have h := has_any (a) (b) (X) w
    rwa [decide_eq_true ⟨hX1, hX2⟩] at h
  have HH4 : Hid (∀ w, Calls Try.prog 27 #[.agg #[.int .i64 j, .int .i64 k], .int .i64 X] w fun r w' => r = .returned (.bool true) ∧ Below w.heap.size w w') := fun w => by
    have h := has_any (j) (k) (X) w
    rwa [decide_eq_true ⟨by omega, by omega⟩] at h
  have HH5 : Hid (∀ w, Calls Try.prog 27 #[.agg #[.int .i64 j, .int .i64 k], .int .i64 Y] w fun r w' => r = .returned (.bool true) ∧ Below w.heap.size w w') := fun w => by
    have h := has_any (j) (k) (Y) w
    rwa [decide_eq_true ⟨by omega, by omega⟩] at h
  clear hjk hj hk hci
  refine has_reg10 w w4 p7 p8 A a b c d X Y m mm i0 i1 i2 ci j k (by intro _ _ d _ _ h; cases d <;> exact h) HB4 hH4 HC1 HC2 HT HH1 HO HH2 HH3 HJ HH4 HH5 (fun w5 hb5 hc5 => ?_)
  have HB5 : Hid (Below w.heap.size w w5) := hb5
  obtain ⟨c0, c1, c2, c3, _, _, _⟩ := hc5
  clear hb5 hH4 HC1 HC2 HT HO HJ HH1 HH2 HH3 HH4 HH5 HB4 HB2
  obtain ⟨x0, hx0⟩ : ∃ Z, mxF X 0 = Z := ⟨_, rfl⟩
  obtain ⟨x1, hx1⟩ : ∃ Z, mnF x0 mm = Z := ⟨_, rfl⟩
  obtain ⟨u0, hu0⟩ : ∃ Z, (if m < 0 then capF (b * m) else capF (a * m)) = Z := ⟨_, rfl⟩
  obtain ⟨u1, hu1⟩ : ∃ Z, (if m < 0 then capF (a * m) else capF (b * m)) = Z := ⟨_, rfl⟩
  obtain ⟨u2, hu2⟩ : ∃ Z, capF (X * m) = Z := ⟨_, rfl⟩
  have HAdd : Hid (∀ w, _) := fun w => add_any a b c d w ⟨h1, by omega⟩ ⟨by omega, h3⟩ ⟨h4, by omega⟩ ⟨by omega, h6⟩
  have HSub : Hid (∀ w, _) := fun w => sub_any a b c d w ⟨h1, by omega⟩ ⟨by omega, h3⟩ ⟨h4, by omega⟩ ⟨by omega, h6⟩
  have HMul : Hid (∀ w, _) := fun w => mul_any a b m w ⟨h1, by omega⟩ ⟨by omega, h3⟩ hm0
  have HTm : Hid (∀ w, _) := fun w => times_any X m w ⟨by omega, by omega⟩ hm0
  have HCl : Hid (∀ w, _) := fun w => clamp_any a b mm w
  have HCa : Hid (∀ w, _) := fun w => refcap_any (X + Y) w
  have HCs : Hid (∀ w, _) := fun w => refcap_any (X - Y) w
  rw [hu0, hu1] at HMul
  rw [hu2] at HTm
  have hmul := mul_has (m := m) hX1 hX2
  rw [hu0, hu1, hu2] at hmul
  have hclamp : nearF a 0 mm ≤ x1 ∧ x1 ≤ nearF b 0 mm := by
    rw [show x1 = nearF X 0 mm by rw [← hx1, ← hx0]; rfl]
    exact ⟨nearF_mono hX1, nearF_mono hX2⟩
  have ha := capF_mono (show a + c ≤ X + Y by omega)
  have hb := capF_mono (show X + Y ≤ b + d by omega)
  have hc := capF_mono (show a - d ≤ X - Y by omega)
  have hd := capF_mono (show X - Y ≤ b - c by omega)
  have HH1 : Hid (∀ w, Calls Try.prog 27 #[.agg #[.int .i64 (capF (a + c)), .int .i64 (capF (b + d))], .int .i64 (capF (X + Y))] w fun r w' => r = .returned (.bool true) ∧ Below w.heap.size w w') := fun w => by
    have h := has_any (capF (a + c)) (capF (b + d)) (capF (X + Y)) w
    rwa [decide_eq_true ⟨ha, hb⟩] at h
  have HH2 : Hid (∀ w, Calls Try.prog 27 #[.agg #[.int .i64 (capF (a - d)), .int .i64 (capF (b - c))], .int .i64 (capF (X - Y))] w fun r w' => r = .returned (.bool true) ∧ Below w.heap.size w w') := fun w => by
    have h := has_any (capF (a - d)) (capF (b - c)) (capF (X - Y)) w
    rwa [decide_eq_true ⟨hc, hd⟩] at h
  have HH3 : Hid (∀ w, Calls Try.prog 27 #[.agg #[.int .i64 u0, .int .i64 u1], .int .i64 u2] w fun r w' => r = .returned (.bool true) ∧ Below w.heap.size w w') := fun w => by
    have h := has_any (u0) (u1) (u2) w
    rwa [decide_eq_true hmul] at h
  have HH4 : Hid (∀ w, Calls Try.prog 27 #[.agg #[.int .i64 (nearF a 0 mm), .int .i64 (nearF b 0 mm)], .int .i64 x1] w fun r w' => r = .returned (.bool true) ∧ Below w.heap.size w w') := fun w => by
    have h := has_any (nearF a 0 mm) (nearF b 0 mm) (x1) w
    rwa [decide_eq_true hclamp] at h
  have hw1 : IntKind.i64.wrap (X + Y) = X + Y := IntWalk.i64_in _ (by omega)
  have hw2 : IntKind.i64.wrap (X - Y) = X - Y := IntWalk.i64_in _ (by omega)
  have HU : Hid (∀ w : World, w = w) := fun _ => rfl
  clear ha hb hc hd hmul hclamp hu0 hu1 hu2 h1 h2 h3 h4 h5 h6 hm0 hX1 hX2 hY1 hY2
  unfold mxF at hx0
  unfold mnF at hx1
  generalize capF (a + c) = g1 at *
  generalize capF (b + d) = g2 at *
  generalize capF (X + Y) = g3 at *
  generalize capF (a - d) = g4 at *
  generalize capF (b - c) = g5 at *
  generalize capF (X - Y) = g6 at *
  generalize nearF a 0 mm = g7 at *
  generalize nearF b 0 mm = g8 at *
  go_wp2_with fail
  refine (HAdd.out _).mono ?_
  rintro r w6 ⟨rfl, hb6⟩
  have HB6 : Hid (Below w.heap.size w w6) := by first | exact HB5.out.trans (hb6.mono HB5.out.size) | exact HB5.out.drew.trans (hb6.mono HB5.out.drew.size)
  have hS6 : w6.cell? ⟨p7, 0, none⟩ = some (.int .i64 a) ∧ w6.cell? ⟨p7, 1, none⟩ = some (.int .i64 b) ∧ w6.cell? ⟨p8, 0, none⟩ = some (.int .i64 c) ∧ w6.cell? ⟨p8, 1, none⟩ = some (.int .i64 d) := ⟨(hb6.cell (p := ⟨p7, 0, none⟩) (lt_of_cell c0)).trans c0, (hb6.cell (p := ⟨p7, 1, none⟩) (lt_of_cell c1)).trans c1, (hb6.cell (p := ⟨p8, 0, none⟩) (lt_of_cell c2)).trans c2, (hb6.cell (p := ⟨p8, 1, none⟩) (lt_of_cell c3)).trans c3⟩
  clear hb6 c0 c1 c2 c3 HB5
  obtain ⟨c0, c1, c2, c3⟩ := hS6
  go_wp2_with fail
  refine (HCa.out _).mono ?_
  rintro r w7 ⟨rfl, hw7⟩
  have HB7 : Hid (Below w.heap.size w w7) := by rw [hw7]; first | exact HB6.out | exact HB6.out.drew
  have hS7 : w7.cell? ⟨p7, 0, none⟩ = some (.int .i64 a) ∧ w7.cell? ⟨p7, 1, none⟩ = some (.int .i64 b) ∧ w7.cell? ⟨p8, 0, none⟩ = some (.int .i64 c) ∧ w7.cell? ⟨p8, 1, none⟩ = some (.int .i64 d) := by rw [hw7]; exact ⟨c0, c1, c2, c3⟩
  clear hw7 c0 c1 c2 c3 HB6
  obtain ⟨c0, c1, c2, c3⟩ := hS7
  go_wp2_with fail
  refine (HH1.out _).mono ?_
  rintro r w8 ⟨rfl, hb8⟩
  have HB8 : Hid (Below w.heap.size w w8) := by first | exact HB7.out.trans (hb8.mono HB7.out.size) | exact HB7.out.drew.trans (hb8.mono HB7.out.drew.size)
  have hS8 : w8.cell? ⟨p7, 0, none⟩ = some (.int .i64 a) ∧ w8.cell? ⟨p7, 1, none⟩ = some (.int .i64 b) ∧ w8.cell? ⟨p8, 0, none⟩ = some (.int .i64 c) ∧ w8.cell? ⟨p8, 1, none⟩ = some (.int .i64 d) := ⟨(hb8.cell (p := ⟨p7, 0, none⟩) (lt_of_cell c0)).trans c0, (hb8.cell (p := ⟨p7, 1, none⟩) (lt_of_cell c1)).trans c1, (hb8.cell (p := ⟨p8, 0, none⟩) (lt_of_cell c2)).trans c2, (hb8.cell (p := ⟨p8, 1, none⟩) (lt_of_cell c3)).trans c3⟩
  clear hb8 c0 c1 c2 c3 HB7
  obtain ⟨c0, c1, c2, c3⟩ := hS8
  go_wp2_with fail
  refine (HSub.out _).mono ?_
  rintro r w9 ⟨rfl, hb9⟩
  have HB9 : Hid (Below w.heap.size w w9) := by first | exact HB8.out.trans (hb9.mono HB8.out.size) | exact HB8.out.drew.trans (hb9.mono HB8.out.drew.size)
  have hS9 : w9.cell? ⟨p7, 0, none⟩ = some (.int .i64 a) ∧ w9.cell? ⟨p7, 1, none⟩ = some (.int .i64 b) ∧ w9.cell? ⟨p8, 0, none⟩ = some (.int .i64 c) ∧ w9.cell? ⟨p8, 1, none⟩ = some (.int .i64 d) := ⟨(hb9.cell (p := ⟨p7, 0, none⟩) (lt_of_cell c0)).trans c0, (hb9.cell (p := ⟨p7, 1, none⟩) (lt_of_cell c1)).trans c1, (hb9.cell (p := ⟨p8, 0, none⟩) (lt_of_cell c2)).trans c2, (hb9.cell (p := ⟨p8, 1, none⟩) (lt_of_cell c3)).trans c3⟩
  clear hb9 c0 c1 c2 c3 HB8
  obtain ⟨c0, c1, c2, c3⟩ := hS9
  go_wp2_with fail
  refine (HCs.out _).mono ?_
  rintro r w10 ⟨rfl, hw10⟩
  have HB10 : Hid (Below w.heap.size w w10) := by rw [hw10]; first | exact HB9.out | exact HB9.out.drew
  have hS10 : w10.cell? ⟨p7, 0, none⟩ = some (.int .i64 a) ∧ w10.cell? ⟨p7, 1, none⟩ = some (.int .i64 b) ∧ w10.cell? ⟨p8, 0, none⟩ = some (.int .i64 c) ∧ w10.cell? ⟨p8, 1, none⟩ = some (.int .i64 d) := by rw [hw10]; exact ⟨c0, c1, c2, c3⟩
  clear hw10 c0 c1 c2 c3 HB9
  obtain ⟨c0, c1, c2, c3⟩ := hS10
  go_wp2_with fail
  refine (HH2.out _).mono ?_
  rintro r w11 ⟨rfl, hb11⟩
  have HB11 : Hid (Below w.heap.size w w11) := by first | exact HB10.out.trans (hb11.mono HB10.out.size) | exact HB10.out.drew.trans (hb11.mono HB10.out.drew.size)
  have hS11 : w11.cell? ⟨p7, 0, none⟩ = some (.int .i64 a) ∧ w11.cell? ⟨p7, 1, none⟩ = some (.int .i64 b) ∧ w11.cell? ⟨p8, 0, none⟩ = some (.int .i64 c) ∧ w11.cell? ⟨p8, 1, none⟩ = some (.int .i64 d) := ⟨(hb11.cell (p := ⟨p7, 0, none⟩) (lt_of_cell c0)).trans c0, (hb11.cell (p := ⟨p7, 1, none⟩) (lt_of_cell c1)).trans c1, (hb11.cell (p := ⟨p8, 0, none⟩) (lt_of_cell c2)).trans c2, (hb11.cell (p := ⟨p8, 1, none⟩) (lt_of_cell c3)).trans c3⟩
  clear hb11 c0 c1 c2 c3 HB10
  obtain ⟨c0, c1, c2, c3⟩ := hS11
  go_wp2_with fail
  refine (HMul.out _).mono ?_
  rintro r w12 ⟨rfl, hb12⟩
  have HB12 : Hid (Below w.heap.size w w12) := by first | exact HB11.out.trans (hb12.mono HB11.out.size) | exact HB11.out.drew.trans (hb12.mono HB11.out.drew.size)
  have hS12 : w12.cell? ⟨p7, 0, none⟩ = some (.int .i64 a) ∧ w12.cell? ⟨p7, 1, none⟩ = some (.int .i64 b) ∧ w12.cell? ⟨p8, 0, none⟩ = some (.int .i64 c) ∧ w12.cell? ⟨p8, 1, none⟩ = some (.int .i64 d) := ⟨(hb12.cell (p := ⟨p7, 0, none⟩) (lt_of_cell c0)).trans c0, (hb12.cell (p := ⟨p7, 1, none⟩) (lt_of_cell c1)).trans c1, (hb12.cell (p := ⟨p8, 0, none⟩) (lt_of_cell c2)).trans c2, (hb12.cell (p := ⟨p8, 1, none⟩) (lt_of_cell c3)).trans c3⟩
  clear hb12 c0 c1 c2 c3 HB11
  obtain ⟨c0, c1, c2, c3⟩ := hS12
  go_wp2_with fail
  refine (HTm.out _).mono ?_
  rintro r w13 ⟨rfl, hw13⟩
  have HB13 : Hid (Below w.heap.size w w13) := by rw [hw13]; first | exact HB12.out | exact HB12.out.drew
  have hS13 : w13.cell? ⟨p7, 0, none⟩ = some (.int .i64 a) ∧ w13.cell? ⟨p7, 1, none⟩ = some (.int .i64 b) ∧ w13.cell? ⟨p8, 0, none⟩ = some (.int .i64 c) ∧ w13.cell? ⟨p8, 1, none⟩ = some (.int .i64 d) := by rw [hw13]; exact ⟨c0, c1, c2, c3⟩
  clear hw13 c0 c1 c2 c3 HB12
  obtain ⟨c0, c1, c2, c3⟩ := hS13
  go_wp2_with fail
  refine (HH3.out _).mono ?_
  rintro r w14 ⟨rfl, hb14⟩
  have HB14 : Hid (Below w.heap.size w w14) := by first | exact HB13.out.trans (hb14.mono HB13.out.size) | exact HB13.out.drew.trans (hb14.mono HB13.out.drew.size)
  have hS14 : w14.cell? ⟨p7, 0, none⟩ = some (.int .i64 a) ∧ w14.cell? ⟨p7, 1, none⟩ = some (.int .i64 b) ∧ w14.cell? ⟨p8, 0, none⟩ = some (.int .i64 c) ∧ w14.cell? ⟨p8, 1, none⟩ = some (.int .i64 d) := ⟨(hb14.cell (p := ⟨p7, 0, none⟩) (lt_of_cell c0)).trans c0, (hb14.cell (p := ⟨p7, 1, none⟩) (lt_of_cell c1)).trans c1, (hb14.cell (p := ⟨p8, 0, none⟩) (lt_of_cell c2)).trans c2, (hb14.cell (p := ⟨p8, 1, none⟩) (lt_of_cell c3)).trans c3⟩
  clear hb14 c0 c1 c2 c3 HB13
  obtain ⟨c0, c1, c2, c3⟩ := hS14
  go_wp2_with fail
  refine (HCl.out _).mono ?_
  rintro r w15 ⟨rfl, hb15⟩
  have HB15 : Hid (Below w.heap.size w w15) := by first | exact HB14.out.trans (hb15.mono HB14.out.size) | exact HB14.out.drew.trans (hb15.mono HB14.out.drew.size)
  have hS15 : w15.cell? ⟨p7, 0, none⟩ = some (.int .i64 a) ∧ w15.cell? ⟨p7, 1, none⟩ = some (.int .i64 b) ∧ w15.cell? ⟨p8, 0, none⟩ = some (.int .i64 c) ∧ w15.cell? ⟨p8, 1, none⟩ = some (.int .i64 d) := ⟨(hb15.cell (p := ⟨p7, 0, none⟩) (lt_of_cell c0)).trans c0, (hb15.cell (p := ⟨p7, 1, none⟩) (lt_of_cell c1)).trans c1, (hb15.cell (p := ⟨p8, 0, none⟩) (lt_of_cell c2)).trans c2, (hb15.cell (p := ⟨p8, 1, none⟩) (lt_of_cell c3)).trans c3⟩
  clear hb15 c0 c1 c2 c3 HB14
  obtain ⟨c0, c1, c2, c3⟩ := hS15
  go_wp2_with fail
  refine (HH4.out _).mono ?_
  rintro r w16 ⟨rfl, hb16⟩
  have HB16 : Hid (Below w.heap.size w w16) := by first | exact HB15.out.trans (hb16.mono HB15.out.size) | exact HB15.out.drew.trans (hb16.mono HB15.out.drew.size)
  have hS16 : w16.cell? ⟨p7, 0, none⟩ = some (.int .i64 a) ∧ w16.cell? ⟨p7, 1, none⟩ = some (.int .i64 b) ∧ w16.cell? ⟨p8, 0, none⟩ = some (.int .i64 c) ∧ w16.cell? ⟨p8, 1, none⟩ = some (.int .i64 d) := ⟨(hb16.cell (p := ⟨p7, 0, none⟩) (lt_of_cell c0)).trans c0, (hb16.cell (p := ⟨p7, 1, none⟩) (lt_of_cell c1)).trans c1, (hb16.cell (p := ⟨p8, 0, none⟩) (lt_of_cell c2)).trans c2, (hb16.cell (p := ⟨p8, 1, none⟩) (lt_of_cell c3)).trans c3⟩
  clear hb16 c0 c1 c2 c3 HB15
  obtain ⟨c0, c1, c2, c3⟩ := hS16
  go_wp2_with fail
  go_ret
  exact ⟨rfl, HB16.out⟩

theorem has_hi (x y z u i0 i1 i2 : Int) (w : World) (hn : 2147483648 < i2) :
    Calls Try.prog 6 #[.agg #[.int .i64 x, .int .i64 y], .agg #[.int .i64 z, .int .i64 u], .agg #[.int .i64 i0, .int .i64 i1, .int .i64 i2]] w fun r w' => r = .returned (.bool true) ∧ Below w.heap.size w w' := by
  obtain ⟨h1, h2, h3⟩ := span_le x y
  obtain ⟨h4, h5, h6⟩ := span_le z u
  have HMa : Hid (∀ w, _) := fun w => made_any x y w
  have HMb : Hid (∀ w, _) := fun w => made_any z u w
  generalize mnF (capF x) (capF y) = a at *
  generalize mxF (capF x) (capF y) = b at *
  generalize mnF (capF z) (capF u) = c at *
  generalize mxF (capF z) (capF u) = d at *
  obtain ⟨w0, hw0⟩ : ∃ w0, w0 = ((w.alloc (.cells #[.int .i64 x, .int .i64 y] 60)).alloc (.cells #[.int .i64 z, .int .i64 u] 60)).alloc (.cells #[.int .i64 i0, .int .i64 i1, .int .i64 i2] 61) := ⟨_, rfl⟩
  have HB0 : Hid (Below w.heap.size w w0) := by rw [hw0]; exact (((Below.refl _ _).alloc (Nat.le_refl _) _).alloc (by simp) _).alloc (by simp; omega) _
  have hA0 : w0.heap[w.heap.size]? = some (.cells #[.int .i64 x, .int .i64 y] 60 (0, 0)) := by rw [hw0, Below.heap_alloc _ _ _ (by simp; omega), Below.heap_alloc _ _ _ (by simp)]; exact heap_alloc_new w _
  have hC0 : w0.heap[w.heap.size + 1]? = some (.cells #[.int .i64 z, .int .i64 u] 60 (0, 0)) := by
    have := heap_alloc_new (w.alloc (.cells #[.int .i64 x, .int .i64 y] 60)) (Obj.cells #[.int .i64 z, .int .i64 u] 60)
    rw [World.size_alloc] at this
    rw [hw0, Below.heap_alloc _ _ _ (by simp)]
    exact this
  have hE0 : w0.heap[w.heap.size + 1 + 1]? = some (.cells #[.int .i64 i0, .int .i64 i1, .int .i64 i2] 61 (0, 0)) := by
    have := heap_alloc_new ((w.alloc (.cells #[.int .i64 x, .int .i64 y] 60)).alloc (.cells #[.int .i64 z, .int .i64 u] 60)) (Obj.cells #[.int .i64 i0, .int .i64 i1, .int .i64 i2] 61)
    rw [World.size_alloc, World.size_alloc, ← hw0] at this
    exact this
  have hn1 : decide (i2 < -2147483648) = false := decide_eq_false (by omega)
  have hn2 : decide (2147483648 < i2) = true := decide_eq_true hn
  go_enter Try.func6, Try.ntmps6
  go_wp2_with fail
  rw [← hw0]
  clear hw0
  refine (speaks_any _).mono ?_
  rintro r w1 ⟨rfl, hb1⟩
  have HB1 : Hid (Below w.heap.size w w1) := HB0.out.trans (hb1.mono HB0.out.size)
  have hA1 := (hb1.block _ (lt_of_heap hA0)).trans hA0
  have hC1 := (hb1.block _ (lt_of_heap hC0)).trans hC0
  have hE1 := (hb1.block _ (lt_of_heap hE0)).trans hE0
  clear hb1 hA0 hC0 hE0 HB0
  go_wp2_with fail
  refine has_reg3 w1 w.heap.size x y z u a b c d hA1 hC1 HMa.out HMb.out (by intro _ _ d _ _ h; cases d <;> exact h) (fun p7 p8 w2 hb2 hp7 hp8 hne hs ht => ?_)
  have hE2 := (hb2.block _ (lt_of_heap hE1)).trans hE1
  clear hA1 hC1 HMa HMb hE1
  have HB2 : Hid (Below w.heap.size w w2) := HB1.out.trans (hb2.mono HB1.out.size)
  obtain ⟨A, hA⟩ : ∃ A, w.heap.size + 1 + 1 = A := ⟨_, rfl⟩
  rw [hA] at hE2
  have hc2 : w2.cell? ⟨p7, 0, none⟩ = some (.int .i64 a) ∧ w2.cell? ⟨p7, 1, none⟩ = some (.int .i64 b) ∧ w2.cell? ⟨p8, 0, none⟩ = some (.int .i64 c) ∧ w2.cell? ⟨p8, 1, none⟩ = some (.int .i64 d) ∧ w2.cell? ⟨A, 0, none⟩ = some (.int .i64 i0) ∧ w2.cell? ⟨A, 1, none⟩ = some (.int .i64 i1) ∧ w2.cell? ⟨A, 2, none⟩ = some (.int .i64 i2) := ⟨cell_of_heap hs 0 _ rfl, cell_of_heap hs 1 _ rfl, cell_of_heap ht 0 _ rfl, cell_of_heap ht 1 _ rfl, cell_of_heap hE2 0 _ rfl, cell_of_heap hE2 1 _ rfl, cell_of_heap hE2 2 _ rfl⟩
  clear hb2 HB1 hs ht hp7 hp8 hne hE2
  have HO1 := fun w => of_any a b i0 w ⟨h1, h2, h3⟩
  have HO2 := fun w => of_any c d i1 w ⟨h4, h5, h6⟩
  have HO1' : Hid (∀ w, _) := HO1
  have HO2' : Hid (∀ w, _) := HO2
  clear HO1 HO2
  go_wp2_with fail
  rw [hA]
  refine wp_region_held_drew (S := fun W => W.cell? ⟨p7, 0, none⟩ = some (.int .i64 a) ∧ W.cell? ⟨p7, 1, none⟩ = some (.int .i64 b) ∧ W.cell? ⟨p8, 0, none⟩ = some (.int .i64 c) ∧ W.cell? ⟨p8, 1, none⟩ = some (.int .i64 d) ∧ W.cell? ⟨A, 0, none⟩ = some (.int .i64 i0) ∧ W.cell? ⟨A, 1, none⟩ = some (.int .i64 i1) ∧ W.cell? ⟨A, 2, none⟩ = some (.int .i64 i2)) (by kernel_rfl) (by exact hc2) (fun hHeld => ?_)
  change wpAnyH _ _ _ _ _ 10 (Array.replicate 10 false) _ _
  refine wpAnyH_take (i := 0) (oi := _) (v := _) (by simp only [List.getElem?_toArray, List.getElem?_cons_zero]; rfl) (by kernel_rfl) (by kernel_rfl) (by kernel_rfl) (by exact fun _ _ _ h => h) (Or.inl ⟨by rfl, by intro w' hSw; (try dsimp only at hSw); first | (go_simp; done) | (go_simp; with_reducible rfl)⟩) hHeld ?_
  simp only [Act.put, List.setIfInBounds_toArray, List.set_cons_zero, List.set_cons_succ]
  refine wpAnyH_take (i := 1) (oi := _) (v := _) (by simp only [List.getElem?_toArray, List.getElem?_cons_succ, List.getElem?_cons_zero]; rfl) (by kernel_rfl) (by kernel_rfl) (by kernel_rfl) (by exact fun _ _ _ h => h) (Or.inl ⟨by rfl, by intro w' hSw; (try dsimp only at hSw); first | (go_simp; done) | (go_simp; with_reducible rfl)⟩) hHeld ?_
  simp only [Act.put, List.setIfInBounds_toArray, List.set_cons_zero, List.set_cons_succ]
  refine wpAnyH_take (i := 2) (oi := _) (v := _) (by simp only [List.getElem?_toArray, List.getElem?_cons_succ, List.getElem?_cons_zero]; rfl) (by kernel_rfl) (by kernel_rfl) (by kernel_rfl) (by exact fun _ _ _ h => h) (Or.inl ⟨by rfl, by intro w' hSw; (try dsimp only at hSw); first | (go_simp; done) | (go_simp; with_reducible rfl)⟩) hHeld ?_
  simp only [Act.put, List.setIfInBounds_toArray, List.set_cons_zero, List.set_cons_succ]
  refine wpAnyH_take (i := 4) (oi := _) (v := _) (by simp only [List.getElem?_toArray, List.getElem?_cons_succ, List.getElem?_cons_zero]; rfl) (by kernel_rfl) (by kernel_rfl) (by kernel_rfl) (by exact fun _ _ _ h => h) (Or.inl ⟨by rfl, by intro w' hSw; (try dsimp only at hSw); first | (go_simp; done) | (go_simp; with_reducible rfl)⟩) hHeld ?_
  simp only [Act.put, List.setIfInBounds_toArray, List.set_cons_zero, List.set_cons_succ]
  refine wpAnyH_take (i := 5) (oi := _) (v := _) (by simp only [List.getElem?_toArray, List.getElem?_cons_succ, List.getElem?_cons_zero]; rfl) (by kernel_rfl) (by kernel_rfl) (by kernel_rfl) (by exact fun _ _ _ h => h) (Or.inl ⟨by rfl, by intro w' hSw; (try dsimp only at hSw); first | (go_simp; done) | (go_simp; with_reducible rfl)⟩) hHeld ?_
  simp only [Act.put, List.setIfInBounds_toArray, List.set_cons_zero, List.set_cons_succ]
  refine wpAnyH_take (i := 6) (oi := _) (v := _) (by simp only [List.getElem?_toArray, List.getElem?_cons_succ, List.getElem?_cons_zero]; rfl) (by kernel_rfl) (by kernel_rfl) (by kernel_rfl) (by exact fun _ _ _ h => h) (Or.inl ⟨by rfl, by intro w' hSw; (try dsimp only at hSw); first | (go_simp; done) | (go_simp; with_reducible rfl)⟩) hHeld ?_
  simp only [Act.put, List.setIfInBounds_toArray, List.set_cons_zero, List.set_cons_succ]
  refine wpAnyH_ready (rs := [3]) (by kernel_rfl) (by simp) ?_
  refine AllReadyH.cons rfl (fun K hK => ?_) AllReadyH.nil
  go_simp
  go_wp2_with fail
  refine (HO1'.out _).mono ?_
  rintro r w3 ⟨X, rfl, hX1, hX2, hb3⟩
  have HB3 : Hid (Below w.heap.size w w3) := by first | exact HB2.out.trans (hb3.mono HB2.out.size) | exact HB2.out.drew.trans (hb3.mono HB2.out.drew.size)
  refine hK.out _ _ ⟨(hb3.cell (p := ⟨p7, 0, none⟩) (lt_of_cell hHeld.1)).trans hHeld.1, (hb3.cell (p := ⟨p7, 1, none⟩) (lt_of_cell hHeld.2.1)).trans hHeld.2.1, (hb3.cell (p := ⟨p8, 0, none⟩) (lt_of_cell hHeld.2.2.1)).trans hHeld.2.2.1, (hb3.cell (p := ⟨p8, 1, none⟩) (lt_of_cell hHeld.2.2.2.1)).trans hHeld.2.2.2.1, (hb3.cell (p := ⟨A, 0, none⟩) (lt_of_cell hHeld.2.2.2.2.1)).trans hHeld.2.2.2.2.1, (hb3.cell (p := ⟨A, 1, none⟩) (lt_of_cell hHeld.2.2.2.2.2.1)).trans hHeld.2.2.2.2.2.1, (hb3.cell (p := ⟨A, 2, none⟩) (lt_of_cell hHeld.2.2.2.2.2.2)).trans hHeld.2.2.2.2.2.2⟩ (fun hHeld => ?_)
  clear hK K hb3
  refine wpAnyH_ready (rs := [7]) (by kernel_rfl) (by simp) ?_
  refine AllReadyH.cons rfl (fun K hK => ?_) AllReadyH.nil
  go_simp
  go_wp2_with fail
  refine (HO2'.out _).mono ?_
  rintro r w4 ⟨Y, rfl, hY1, hY2, hb4⟩
  have HB4 : Hid (Below w.heap.size w w4) := by first | exact HB3.out.trans (hb4.mono HB3.out.size) | exact HB3.out.drew.trans (hb4.mono HB3.out.drew.size)
  refine hK.out _ _ ⟨(hb4.cell (p := ⟨p7, 0, none⟩) (lt_of_cell hHeld.1)).trans hHeld.1, (hb4.cell (p := ⟨p7, 1, none⟩) (lt_of_cell hHeld.2.1)).trans hHeld.2.1, (hb4.cell (p := ⟨p8, 0, none⟩) (lt_of_cell hHeld.2.2.1)).trans hHeld.2.2.1, (hb4.cell (p := ⟨p8, 1, none⟩) (lt_of_cell hHeld.2.2.2.1)).trans hHeld.2.2.2.1, (hb4.cell (p := ⟨A, 0, none⟩) (lt_of_cell hHeld.2.2.2.2.1)).trans hHeld.2.2.2.2.1, (hb4.cell (p := ⟨A, 1, none⟩) (lt_of_cell hHeld.2.2.2.2.2.1)).trans hHeld.2.2.2.2.2.1, (hb4.cell (p := ⟨A, 2, none⟩) (lt_of_cell hHeld.2.2.2.2.2.2)).trans hHeld.2.2.2.2.2.2⟩ (fun hHeld => ?_)
  clear hK K hb4
  refine wpAnyH_take (i := 8) (oi := _) (v := _) (by simp only [List.getElem?_toArray, List.getElem?_cons_succ, List.getElem?_cons_zero]; rfl) (by kernel_rfl) (by kernel_rfl) (by kernel_rfl) (by exact fun _ _ _ h => h) (Or.inl ⟨by rfl, by intro w' hSw; (try dsimp only at hSw); first | (go_simp; done) | (go_simp; with_reducible rfl)⟩) hHeld ?_
  simp only [Act.put, List.setIfInBounds_toArray, List.set_cons_zero, List.set_cons_succ]
  refine wpAnyH_take (i := 9) (oi := _) (v := _) (by simp only [List.getElem?_toArray, List.getElem?_cons_succ, List.getElem?_cons_zero]; rfl) (by kernel_rfl) (by kernel_rfl) (by kernel_rfl) (by exact fun _ _ _ h => h) (Or.inl ⟨by rfl, by intro w' hSw; (try dsimp only at hSw); first | (go_simp; done) | (go_simp; with_reducible rfl)⟩) hHeld ?_
  simp only [Act.put, List.setIfInBounds_toArray, List.set_cons_zero, List.set_cons_succ]
  refine wpAnyH_done (by kernel_rfl) ?_ _
  clear HO1' HO2' hc2
  obtain ⟨mm, hmm⟩ : ∃ mm, mxF (i2 % 2147483648) 0 = mm := ⟨_, rfl⟩
  have HMM : Hid (mxF (i2 % 2147483648) 0 = mm) := hmm
  unfold mxF at hmm
  have hH4 := hHeld
  obtain ⟨_, _, _, _, _, _, q2⟩ := hHeld
  go_wp2_with fail
  obtain ⟨m, hm⟩ : ∃ m, i2 % 2147483648 = m := ⟨_, rfl⟩
  have hm0 : -2147483648 ≤ m ∧ m ≤ 2147483648 := by omega
  rw [hm]
  rw [hm] at HMM
  have e0 : m = mm := by have := HMM.out; unfold mxF at this; split at this <;> omega
  subst e0
  clear hm hn1 hn hmm q2
  obtain ⟨ci, hci⟩ : ∃ Z, capF i0 = Z := ⟨_, rfl⟩
  obtain ⟨j, hj⟩ : ∃ Z, mnF a c = Z := ⟨_, rfl⟩
  obtain ⟨k, hk⟩ : ∃ Z, mxF b d = Z := ⟨_, rfl⟩
  have HC1 : Hid (∀ w, _) := fun w => cap_any i0 w
  have HC2 : Hid (∀ w, _) := fun w => refcap_any i0 w
  have HT : Hid (∀ w, _) := fun w => top_any w
  have HO : Hid (∀ w, _) := fun w => one_any X w
  have HJ : Hid (∀ w, _) := fun w => join_any a b c d w
  rw [hci] at HC1 HC2
  rw [capF_id (by omega) (by omega)] at HO
  rw [hj, hk] at HJ
  have hjk : j ≤ a ∧ j ≤ c ∧ b ≤ k ∧ d ≤ k := by rw [← hj, ← hk]; unfold mnF mxF; (repeat' split) <;> omega
  have HH1 : Hid (∀ w, Calls Try.prog 27 #[.agg #[.int .i64 (-1099511627776), .int .i64 1099511627776], .int .i64 X] w fun r w' => r = .returned (.bool true) ∧ Below w.heap.size w w') := fun w => by
    have h := has_any ((-1099511627776)) (1099511627776) (X) w
    rwa [decide_eq_true ⟨by omega, by omega⟩] at h
  have HH2 : Hid (∀ w, Calls Try.prog 27 #[.agg #[.int .i64 X, .int .i64 X], .int .i64 X] w fun r w' => r = .returned (.bool true) ∧ Below w.heap.size w w') := fun w => by
    have h := has_any (X) (X) (X) w
    rwa [decide_eq_true ⟨by omega, by omega⟩] at h
  have HH3 : Hid (∀ w, Calls Try.prog 27 #[.agg #[.int .i64 a, .int .i64 b], .int .i64 X] w fun r w' => r = .returned (.bool true) ∧ Below w.heap.size w w') := fun w => by
    have h := has_any (a) (b) (X) w
    rwa [decide_eq_true ⟨hX1, hX2⟩] at h
  have HH4 : Hid (∀ w, Calls Try.prog 27 #[.agg #[.int .i64 j, .int .i64 k], .int .i64 X] w fun r w' => r = .returned (.bool true) ∧ Below w.heap.size w w') := fun w => by
    have h := has_any (j) (k) (X) w
    rwa [decide_eq_true ⟨by omega, by omega⟩] at h
  have HH5 : Hid (∀ w, Calls Try.prog 27 #[.agg #[.int .i64 j, .int .i64 k], .int .i64 Y] w fun r w' => r = .returned (.bool true) ∧ Below w.heap.size w w') := fun w => by
    have h := has_any (j) (k) (Y) w
    rwa [decide_eq_true ⟨by omega, by omega⟩] at h
  clear hjk hj hk hci
  refine has_reg10 w w4 p7 p8 A a b c d X Y m m i0 i1 i2 ci j k (by intro _ _ d _ _ h; cases d <;> exact h) HB4 hH4 HC1 HC2 HT HH1 HO HH2 HH3 HJ HH4 HH5 (fun w5 hb5 hc5 => ?_)
  have HB5 : Hid (Below w.heap.size w w5) := hb5
  obtain ⟨c0, c1, c2, c3, _, _, _⟩ := hc5
  clear hb5 hH4 HC1 HC2 HT HO HJ HH1 HH2 HH3 HH4 HH5 HB4 HB2
  obtain ⟨x0, hx0⟩ : ∃ Z, mxF X 0 = Z := ⟨_, rfl⟩
  obtain ⟨x1, hx1⟩ : ∃ Z, mnF x0 m = Z := ⟨_, rfl⟩
  obtain ⟨u0, hu0⟩ : ∃ Z, (if m < 0 then capF (b * m) else capF (a * m)) = Z := ⟨_, rfl⟩
  obtain ⟨u1, hu1⟩ : ∃ Z, (if m < 0 then capF (a * m) else capF (b * m)) = Z := ⟨_, rfl⟩
  obtain ⟨u2, hu2⟩ : ∃ Z, capF (X * m) = Z := ⟨_, rfl⟩
  have HAdd : Hid (∀ w, _) := fun w => add_any a b c d w ⟨h1, by omega⟩ ⟨by omega, h3⟩ ⟨h4, by omega⟩ ⟨by omega, h6⟩
  have HSub : Hid (∀ w, _) := fun w => sub_any a b c d w ⟨h1, by omega⟩ ⟨by omega, h3⟩ ⟨h4, by omega⟩ ⟨by omega, h6⟩
  have HMul : Hid (∀ w, _) := fun w => mul_any a b m w ⟨h1, by omega⟩ ⟨by omega, h3⟩ hm0
  have HTm : Hid (∀ w, _) := fun w => times_any X m w ⟨by omega, by omega⟩ hm0
  have HCl : Hid (∀ w, _) := fun w => clamp_any a b m w
  have HCa : Hid (∀ w, _) := fun w => refcap_any (X + Y) w
  have HCs : Hid (∀ w, _) := fun w => refcap_any (X - Y) w
  rw [hu0, hu1] at HMul
  rw [hu2] at HTm
  have hmul := mul_has (m := m) hX1 hX2
  rw [hu0, hu1, hu2] at hmul
  have hclamp : nearF a 0 m ≤ x1 ∧ x1 ≤ nearF b 0 m := by
    rw [show x1 = nearF X 0 m by rw [← hx1, ← hx0]; rfl]
    exact ⟨nearF_mono hX1, nearF_mono hX2⟩
  have ha := capF_mono (show a + c ≤ X + Y by omega)
  have hb := capF_mono (show X + Y ≤ b + d by omega)
  have hc := capF_mono (show a - d ≤ X - Y by omega)
  have hd := capF_mono (show X - Y ≤ b - c by omega)
  have HH1 : Hid (∀ w, Calls Try.prog 27 #[.agg #[.int .i64 (capF (a + c)), .int .i64 (capF (b + d))], .int .i64 (capF (X + Y))] w fun r w' => r = .returned (.bool true) ∧ Below w.heap.size w w') := fun w => by
    have h := has_any (capF (a + c)) (capF (b + d)) (capF (X + Y)) w
    rwa [decide_eq_true ⟨ha, hb⟩] at h
  have HH2 : Hid (∀ w, Calls Try.prog 27 #[.agg #[.int .i64 (capF (a - d)), .int .i64 (capF (b - c))], .int .i64 (capF (X - Y))] w fun r w' => r = .returned (.bool true) ∧ Below w.heap.size w w') := fun w => by
    have h := has_any (capF (a - d)) (capF (b - c)) (capF (X - Y)) w
    rwa [decide_eq_true ⟨hc, hd⟩] at h
  have HH3 : Hid (∀ w, Calls Try.prog 27 #[.agg #[.int .i64 u0, .int .i64 u1], .int .i64 u2] w fun r w' => r = .returned (.bool true) ∧ Below w.heap.size w w') := fun w => by
    have h := has_any (u0) (u1) (u2) w
    rwa [decide_eq_true hmul] at h
  have HH4 : Hid (∀ w, Calls Try.prog 27 #[.agg #[.int .i64 (nearF a 0 m), .int .i64 (nearF b 0 m)], .int .i64 x1] w fun r w' => r = .returned (.bool true) ∧ Below w.heap.size w w') := fun w => by
    have h := has_any (nearF a 0 m) (nearF b 0 m) (x1) w
    rwa [decide_eq_true hclamp] at h
  have hw1 : IntKind.i64.wrap (X + Y) = X + Y := IntWalk.i64_in _ (by omega)
  have hw2 : IntKind.i64.wrap (X - Y) = X - Y := IntWalk.i64_in _ (by omega)
  have HU : Hid (∀ w : World, w = w) := fun _ => rfl
  clear ha hb hc hd hmul hclamp hu0 hu1 hu2 h1 h2 h3 h4 h5 h6 hm0 hX1 hX2 hY1 hY2
  unfold mxF at hx0
  unfold mnF at hx1
  generalize capF (a + c) = g1 at *
  generalize capF (b + d) = g2 at *
  generalize capF (X + Y) = g3 at *
  generalize capF (a - d) = g4 at *
  generalize capF (b - c) = g5 at *
  generalize capF (X - Y) = g6 at *
  generalize nearF a 0 m = g7 at *
  generalize nearF b 0 m = g8 at *
  go_wp2_with fail
  refine (HAdd.out _).mono ?_
  rintro r w6 ⟨rfl, hb6⟩
  have HB6 : Hid (Below w.heap.size w w6) := by first | exact HB5.out.trans (hb6.mono HB5.out.size) | exact HB5.out.drew.trans (hb6.mono HB5.out.drew.size)
  have hS6 : w6.cell? ⟨p7, 0, none⟩ = some (.int .i64 a) ∧ w6.cell? ⟨p7, 1, none⟩ = some (.int .i64 b) ∧ w6.cell? ⟨p8, 0, none⟩ = some (.int .i64 c) ∧ w6.cell? ⟨p8, 1, none⟩ = some (.int .i64 d) := ⟨(hb6.cell (p := ⟨p7, 0, none⟩) (lt_of_cell c0)).trans c0, (hb6.cell (p := ⟨p7, 1, none⟩) (lt_of_cell c1)).trans c1, (hb6.cell (p := ⟨p8, 0, none⟩) (lt_of_cell c2)).trans c2, (hb6.cell (p := ⟨p8, 1, none⟩) (lt_of_cell c3)).trans c3⟩
  clear hb6 c0 c1 c2 c3 HB5
  obtain ⟨c0, c1, c2, c3⟩ := hS6
  go_wp2_with fail
  refine (HCa.out _).mono ?_
  rintro r w7 ⟨rfl, hw7⟩
  have HB7 : Hid (Below w.heap.size w w7) := by rw [hw7]; first | exact HB6.out | exact HB6.out.drew
  have hS7 : w7.cell? ⟨p7, 0, none⟩ = some (.int .i64 a) ∧ w7.cell? ⟨p7, 1, none⟩ = some (.int .i64 b) ∧ w7.cell? ⟨p8, 0, none⟩ = some (.int .i64 c) ∧ w7.cell? ⟨p8, 1, none⟩ = some (.int .i64 d) := by rw [hw7]; exact ⟨c0, c1, c2, c3⟩
  clear hw7 c0 c1 c2 c3 HB6
  obtain ⟨c0, c1, c2, c3⟩ := hS7
  go_wp2_with fail
  refine (HH1.out _).mono ?_
  rintro r w8 ⟨rfl, hb8⟩
  have HB8 : Hid (Below w.heap.size w w8) := by first | exact HB7.out.trans (hb8.mono HB7.out.size) | exact HB7.out.drew.trans (hb8.mono HB7.out.drew.size)
  have hS8 : w8.cell? ⟨p7, 0, none⟩ = some (.int .i64 a) ∧ w8.cell? ⟨p7, 1, none⟩ = some (.int .i64 b) ∧ w8.cell? ⟨p8, 0, none⟩ = some (.int .i64 c) ∧ w8.cell? ⟨p8, 1, none⟩ = some (.int .i64 d) := ⟨(hb8.cell (p := ⟨p7, 0, none⟩) (lt_of_cell c0)).trans c0, (hb8.cell (p := ⟨p7, 1, none⟩) (lt_of_cell c1)).trans c1, (hb8.cell (p := ⟨p8, 0, none⟩) (lt_of_cell c2)).trans c2, (hb8.cell (p := ⟨p8, 1, none⟩) (lt_of_cell c3)).trans c3⟩
  clear hb8 c0 c1 c2 c3 HB7
  obtain ⟨c0, c1, c2, c3⟩ := hS8
  go_wp2_with fail
  refine (HSub.out _).mono ?_
  rintro r w9 ⟨rfl, hb9⟩
  have HB9 : Hid (Below w.heap.size w w9) := by first | exact HB8.out.trans (hb9.mono HB8.out.size) | exact HB8.out.drew.trans (hb9.mono HB8.out.drew.size)
  have hS9 : w9.cell? ⟨p7, 0, none⟩ = some (.int .i64 a) ∧ w9.cell? ⟨p7, 1, none⟩ = some (.int .i64 b) ∧ w9.cell? ⟨p8, 0, none⟩ = some (.int .i64 c) ∧ w9.cell? ⟨p8, 1, none⟩ = some (.int .i64 d) := ⟨(hb9.cell (p := ⟨p7, 0, none⟩) (lt_of_cell c0)).trans c0, (hb9.cell (p := ⟨p7, 1, none⟩) (lt_of_cell c1)).trans c1, (hb9.cell (p := ⟨p8, 0, none⟩) (lt_of_cell c2)).trans c2, (hb9.cell (p := ⟨p8, 1, none⟩) (lt_of_cell c3)).trans c3⟩
  clear hb9 c0 c1 c2 c3 HB8
  obtain ⟨c0, c1, c2, c3⟩ := hS9
  go_wp2_with fail
  refine (HCs.out _).mono ?_
  rintro r w10 ⟨rfl, hw10⟩
  have HB10 : Hid (Below w.heap.size w w10) := by rw [hw10]; first | exact HB9.out | exact HB9.out.drew
  have hS10 : w10.cell? ⟨p7, 0, none⟩ = some (.int .i64 a) ∧ w10.cell? ⟨p7, 1, none⟩ = some (.int .i64 b) ∧ w10.cell? ⟨p8, 0, none⟩ = some (.int .i64 c) ∧ w10.cell? ⟨p8, 1, none⟩ = some (.int .i64 d) := by rw [hw10]; exact ⟨c0, c1, c2, c3⟩
  clear hw10 c0 c1 c2 c3 HB9
  obtain ⟨c0, c1, c2, c3⟩ := hS10
  go_wp2_with fail
  refine (HH2.out _).mono ?_
  rintro r w11 ⟨rfl, hb11⟩
  have HB11 : Hid (Below w.heap.size w w11) := by first | exact HB10.out.trans (hb11.mono HB10.out.size) | exact HB10.out.drew.trans (hb11.mono HB10.out.drew.size)
  have hS11 : w11.cell? ⟨p7, 0, none⟩ = some (.int .i64 a) ∧ w11.cell? ⟨p7, 1, none⟩ = some (.int .i64 b) ∧ w11.cell? ⟨p8, 0, none⟩ = some (.int .i64 c) ∧ w11.cell? ⟨p8, 1, none⟩ = some (.int .i64 d) := ⟨(hb11.cell (p := ⟨p7, 0, none⟩) (lt_of_cell c0)).trans c0, (hb11.cell (p := ⟨p7, 1, none⟩) (lt_of_cell c1)).trans c1, (hb11.cell (p := ⟨p8, 0, none⟩) (lt_of_cell c2)).trans c2, (hb11.cell (p := ⟨p8, 1, none⟩) (lt_of_cell c3)).trans c3⟩
  clear hb11 c0 c1 c2 c3 HB10
  obtain ⟨c0, c1, c2, c3⟩ := hS11
  go_wp2_with fail
  refine (HMul.out _).mono ?_
  rintro r w12 ⟨rfl, hb12⟩
  have HB12 : Hid (Below w.heap.size w w12) := by first | exact HB11.out.trans (hb12.mono HB11.out.size) | exact HB11.out.drew.trans (hb12.mono HB11.out.drew.size)
  have hS12 : w12.cell? ⟨p7, 0, none⟩ = some (.int .i64 a) ∧ w12.cell? ⟨p7, 1, none⟩ = some (.int .i64 b) ∧ w12.cell? ⟨p8, 0, none⟩ = some (.int .i64 c) ∧ w12.cell? ⟨p8, 1, none⟩ = some (.int .i64 d) := ⟨(hb12.cell (p := ⟨p7, 0, none⟩) (lt_of_cell c0)).trans c0, (hb12.cell (p := ⟨p7, 1, none⟩) (lt_of_cell c1)).trans c1, (hb12.cell (p := ⟨p8, 0, none⟩) (lt_of_cell c2)).trans c2, (hb12.cell (p := ⟨p8, 1, none⟩) (lt_of_cell c3)).trans c3⟩
  clear hb12 c0 c1 c2 c3 HB11
  obtain ⟨c0, c1, c2, c3⟩ := hS12
  go_wp2_with fail
  refine (HTm.out _).mono ?_
  rintro r w13 ⟨rfl, hw13⟩
  have HB13 : Hid (Below w.heap.size w w13) := by rw [hw13]; first | exact HB12.out | exact HB12.out.drew
  have hS13 : w13.cell? ⟨p7, 0, none⟩ = some (.int .i64 a) ∧ w13.cell? ⟨p7, 1, none⟩ = some (.int .i64 b) ∧ w13.cell? ⟨p8, 0, none⟩ = some (.int .i64 c) ∧ w13.cell? ⟨p8, 1, none⟩ = some (.int .i64 d) := by rw [hw13]; exact ⟨c0, c1, c2, c3⟩
  clear hw13 c0 c1 c2 c3 HB12
  obtain ⟨c0, c1, c2, c3⟩ := hS13
  go_wp2_with fail
  refine (HH3.out _).mono ?_
  rintro r w14 ⟨rfl, hb14⟩
  have HB14 : Hid (Below w.heap.size w w14) := by first | exact HB13.out.trans (hb14.mono HB13.out.size) | exact HB13.out.drew.trans (hb14.mono HB13.out.drew.size)
  have hS14 : w14.cell? ⟨p7, 0, none⟩ = some (.int .i64 a) ∧ w14.cell? ⟨p7, 1, none⟩ = some (.int .i64 b) ∧ w14.cell? ⟨p8, 0, none⟩ = some (.int .i64 c) ∧ w14.cell? ⟨p8, 1, none⟩ = some (.int .i64 d) := ⟨(hb14.cell (p := ⟨p7, 0, none⟩) (lt_of_cell c0)).trans c0, (hb14.cell (p := ⟨p7, 1, none⟩) (lt_of_cell c1)).trans c1, (hb14.cell (p := ⟨p8, 0, none⟩) (lt_of_cell c2)).trans c2, (hb14.cell (p := ⟨p8, 1, none⟩) (lt_of_cell c3)).trans c3⟩
  clear hb14 c0 c1 c2 c3 HB13
  obtain ⟨c0, c1, c2, c3⟩ := hS14
  go_wp2_with fail
  refine (HCl.out _).mono ?_
  rintro r w15 ⟨rfl, hb15⟩
  have HB15 : Hid (Below w.heap.size w w15) := by first | exact HB14.out.trans (hb15.mono HB14.out.size) | exact HB14.out.drew.trans (hb15.mono HB14.out.drew.size)
  have hS15 : w15.cell? ⟨p7, 0, none⟩ = some (.int .i64 a) ∧ w15.cell? ⟨p7, 1, none⟩ = some (.int .i64 b) ∧ w15.cell? ⟨p8, 0, none⟩ = some (.int .i64 c) ∧ w15.cell? ⟨p8, 1, none⟩ = some (.int .i64 d) := ⟨(hb15.cell (p := ⟨p7, 0, none⟩) (lt_of_cell c0)).trans c0, (hb15.cell (p := ⟨p7, 1, none⟩) (lt_of_cell c1)).trans c1, (hb15.cell (p := ⟨p8, 0, none⟩) (lt_of_cell c2)).trans c2, (hb15.cell (p := ⟨p8, 1, none⟩) (lt_of_cell c3)).trans c3⟩
  clear hb15 c0 c1 c2 c3 HB14
  obtain ⟨c0, c1, c2, c3⟩ := hS15
  go_wp2_with fail
  refine (HH4.out _).mono ?_
  rintro r w16 ⟨rfl, hb16⟩
  have HB16 : Hid (Below w.heap.size w w16) := by first | exact HB15.out.trans (hb16.mono HB15.out.size) | exact HB15.out.drew.trans (hb16.mono HB15.out.drew.size)
  have hS16 : w16.cell? ⟨p7, 0, none⟩ = some (.int .i64 a) ∧ w16.cell? ⟨p7, 1, none⟩ = some (.int .i64 b) ∧ w16.cell? ⟨p8, 0, none⟩ = some (.int .i64 c) ∧ w16.cell? ⟨p8, 1, none⟩ = some (.int .i64 d) := ⟨(hb16.cell (p := ⟨p7, 0, none⟩) (lt_of_cell c0)).trans c0, (hb16.cell (p := ⟨p7, 1, none⟩) (lt_of_cell c1)).trans c1, (hb16.cell (p := ⟨p8, 0, none⟩) (lt_of_cell c2)).trans c2, (hb16.cell (p := ⟨p8, 1, none⟩) (lt_of_cell c3)).trans c3⟩
  clear hb16 c0 c1 c2 c3 HB15
  obtain ⟨c0, c1, c2, c3⟩ := hS16
  go_wp2_with fail
  go_ret
  exact ⟨rfl, HB16.out⟩

theorem spanHas_calls (x y z u i0 i1 i2 : Int) (w : World) :
    Calls Try.prog 6 #[.agg #[.int .i64 x, .int .i64 y], .agg #[.int .i64 z, .int .i64 u], .agg #[.int .i64 i0, .int .i64 i1, .int .i64 i2]] w fun r w' => r = .returned (.bool true) ∧ Below w.heap.size w w' := by
  by_cases h1 : i2 < -2147483648
  · exact has_lo x y z u i0 i1 i2 w h1
  · by_cases h2 : 2147483648 < i2
    · exact has_hi x y z u i0 i1 i2 w h2
    · exact has_in x y z u i0 i1 i2 w ⟨by omega, by omega⟩

end Go.Proofs.Ytgfbcekmnpdoeaa.Sn
