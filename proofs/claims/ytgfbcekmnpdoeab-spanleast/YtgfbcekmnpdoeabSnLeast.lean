/-
  SpanLeast answers true for every input: the ends of what comes of spans come of numbers of these. No condition.
-/
import Derived.Test.YtgfbcekmnpdoeabSnU
import Derived.Test.YtgfbcekmnpdoeabArOpen
namespace Go.Proofs.Ytgfbcekmnpdoeab.Sn
open Go.ChangeShapes Go.WideShapes Go.ChangeAt Go.RowKit
open Go.Proofs.Ytgfbcekmnpdoeab.Nv (lt_of_heap lt_of_cell cell_of_heap free_of_heap)

set_option maxRecDepth 100000
set_option maxHeartbeats 4000000

theorem set2_other {w : World} {z k : Nat} (h : k ≠ z) (v0 v1 : Value) : ((w.setCell ⟨z, 0, none⟩ v0).setCell ⟨z, 1, none⟩ v1).heap[k]? = w.heap[k]? :=
  (heap_setCell_other _ ⟨z, 1, none⟩ k _ h).trans (heap_setCell_other _ ⟨z, 0, none⟩ k _ h)
theorem span_le (x y : Int) : -1099511627776 ≤ mnF (capF x) (capF y) ∧ mnF (capF x) (capF y) ≤ mxF (capF x) (capF y) ∧ mxF (capF x) (capF y) ≤ 1099511627776 := by
  have h1 := capF_lo x
  have h2 := capF_hi x
  have h3 := capF_lo y
  have h4 := capF_hi y
  unfold mnF mxF
  (repeat' split) <;> omega

theorem least_reg3 {Q : Exit → Act → World → Prop} (w1 : World) (A : Nat) (x y z u a b c d : Int) (hA1 : w1.heap[A]? = some (.cells #[.int .i64 x, .int .i64 y] 22 (0, 0))) (hA2 : w1.heap[A + 1]? = some (.cells #[.int .i64 z, .int .i64 u] 22 (0, 0))) (HM1 : ∀ w, Calls Try.prog 7 #[.agg #[.int .i64 x, .int .i64 y]] w fun r w' => r = .returned (.agg #[.int .i64 a, .int .i64 b]) ∧ Below w.heap.size w w') (HM2 : ∀ w, Calls Try.prog 7 #[.agg #[.int .i64 z, .int .i64 u]] w fun r w' => r = .returned (.agg #[.int .i64 c, .int .i64 d]) ∧ Below w.heap.size w w') {x0 x1 x2 x5 x6 x7 x8 x9 x10 x11 x12 x13 x14 x15 x16 x17 x18 x19 x20 x21 x22 x23 x24 x25 x26 x27 x28 x29 x30 x31 x32 x33 x34 x35 x36 x37 x38 x39 x40 x41 x42 x43 x44 x45 x46 x47 x48 x49 x50 x51 x52 x53 x54 x55 x56 x57 x58 x59 x60 x61 x62 x63 x64 x65 x66 x67 x68 x69 x70 x71 x72 x73 x74 x75 x76 x77 x78 x79 x80 x81 x82 x83 x84 x85 x86 x87 x88 x89 x90 x91 x92 x93 x94 x95 x96 x97 x98 x99 x100 x101 x102 x103 x104 x105 x106 x107 x108 x109 x110 x111 x112 x113 x114 x115 x116 x117 x118 x119 x120 x121 x122 x123 : Value}
    (hQp : ∀ (c : List PanicEntry) (a : Act) (d : Option Tmp) (v : Value) (w : World), Q (.panic c) (a.put d v) w → Q (.panic c) a w)
    (hfin : ∀ (p1 p2 : Nat) (W : World), Below w1.heap.size w1 W → w1.heap.size ≤ p1 → w1.heap.size ≤ p2 → p1 ≠ p2 → W.heap[p1]? = some (.cells #[.int .i64 a, .int .i64 b] 25 (0, 0)) → W.heap[p2]? = some (.cells #[.int .i64 c, .int .i64 d] 25 (0, 0)) → Q .normal ⟨#[x0, x1, x2, .pointer (some ⟨A, 0, none⟩), .pointer (some ⟨A + 1, 0, none⟩), x5, x6, .pointer (some ⟨p1, 0, none⟩), .pointer (some ⟨p2, 0, none⟩), x9, x10, x11, x12, x13, x14, .agg #[.int .i64 x, .int .i64 y], .agg #[.int .i64 a, .int .i64 b], .agg #[.int .i64 z, .int .i64 u], .agg #[.int .i64 c, .int .i64 d], x19, x20, x21, x22, x23, x24, x25, x26, x27, x28, x29, x30, x31, x32, x33, x34, x35, x36, x37, x38, x39, x40, x41, x42, x43, x44, x45, x46, x47, x48, x49, x50, x51, x52, x53, x54, x55, x56, x57, x58, x59, x60, x61, x62, x63, x64, x65, x66, x67, x68, x69, x70, x71, x72, x73, x74, x75, x76, x77, x78, x79, x80, x81, x82, x83, x84, x85, x86, x87, x88, x89, x90, x91, x92, x93, x94, x95, x96, x97, x98, x99, x100, x101, x102, x103, x104, x105, x106, x107, x108, x109, x110, x111, x112, x113, x114, x115, x116, x117, x118, x119, x120, x121, x122, x123], []⟩ W) :
    (Code.region 3 #[{ dst := some 15, op := Op.load 22 (Operand.tmp 3), type := 22, pos := "law.go:50", after := #[], guard := none }, { dst := some 16, op := Op.call { callee := Callee.value (Operand.func 7), args := #[Operand.tmp 15], argTypes := #[22] }, type := 25, pos := "law.go:50", after := #[{ on := 0, ground := Ground.data }], guard := none }, { dst := some 17, op := Op.load 22 (Operand.tmp 4), type := 22, pos := "law.go:50", after := #[], guard := none }, { dst := some 18, op := Op.call { callee := Callee.value (Operand.func 7), args := #[Operand.tmp 17], argTypes := #[22] }, type := 25, pos := "law.go:50", after := #[{ on := 2, ground := Ground.data }, { on := 1, ground := Ground.chain }], guard := none }, { dst := some 7, op := Op.alloc 25, type := 0, pos := "law.go:50", after := #[], guard := none }, { dst := some 8, op := Op.alloc 25, type := 0, pos := "law.go:50", after := #[], guard := none }, { dst := none, op := Op.store 25 (Operand.tmp 7) (Operand.tmp 16), type := 0, pos := "law.go:50", after := #[{ on := 4, ground := Ground.data }, { on := 1, ground := Ground.data }, { on := 3, ground := Ground.chain }, { on := 0, ground := Ground.phase }, { on := 1, ground := Ground.phase }, { on := 2, ground := Ground.textOnly Departure.lateStores }, { on := 3, ground := Ground.textOnly Departure.lateStoresUnsure }, { on := 4, ground := Ground.phase }, { on := 5, ground := Ground.phase }], guard := none }, { dst := none, op := Op.store 25 (Operand.tmp 8) (Operand.tmp 18), type := 0, pos := "law.go:50", after := #[{ on := 5, ground := Ground.data }, { on := 3, ground := Ground.data }, { on := 6, ground := Ground.chain }, { on := 0, ground := Ground.phase }, { on := 1, ground := Ground.phase }, { on := 2, ground := Ground.phase }, { on := 3, ground := Ground.phase }, { on := 4, ground := Ground.phase }, { on := 5, ground := Ground.phase }, { on := 6, ground := Ground.phase }], guard := none }] true).wp Try.prog Q ⟨#[x0, x1, x2, .pointer (some ⟨A, 0, none⟩), .pointer (some ⟨A + 1, 0, none⟩), x5, x6, x7, x8, x9, x10, x11, x12, x13, x14, x15, x16, x17, x18, x19, x20, x21, x22, x23, x24, x25, x26, x27, x28, x29, x30, x31, x32, x33, x34, x35, x36, x37, x38, x39, x40, x41, x42, x43, x44, x45, x46, x47, x48, x49, x50, x51, x52, x53, x54, x55, x56, x57, x58, x59, x60, x61, x62, x63, x64, x65, x66, x67, x68, x69, x70, x71, x72, x73, x74, x75, x76, x77, x78, x79, x80, x81, x82, x83, x84, x85, x86, x87, x88, x89, x90, x91, x92, x93, x94, x95, x96, x97, x98, x99, x100, x101, x102, x103, x104, x105, x106, x107, x108, x109, x110, x111, x112, x113, x114, x115, x116, x117, x118, x119, x120, x121, x122, x123], []⟩ w1 := by
  obtain ⟨ops, hops⟩ : ∃ ops : Array Oper, ops = #[{ dst := some 15, op := Op.load 22 (Operand.tmp 3), type := 22, pos := "law.go:50", after := #[], guard := none }, { dst := some 16, op := Op.call { callee := Callee.value (Operand.func 7), args := #[Operand.tmp 15], argTypes := #[22] }, type := 25, pos := "law.go:50", after := #[{ on := 0, ground := Ground.data }], guard := none }, { dst := some 17, op := Op.load 22 (Operand.tmp 4), type := 22, pos := "law.go:50", after := #[], guard := none }, { dst := some 18, op := Op.call { callee := Callee.value (Operand.func 7), args := #[Operand.tmp 17], argTypes := #[22] }, type := 25, pos := "law.go:50", after := #[{ on := 2, ground := Ground.data }, { on := 1, ground := Ground.chain }], guard := none }, { dst := some 7, op := Op.alloc 25, type := 0, pos := "law.go:50", after := #[], guard := none }, { dst := some 8, op := Op.alloc 25, type := 0, pos := "law.go:50", after := #[], guard := none }, { dst := none, op := Op.store 25 (Operand.tmp 7) (Operand.tmp 16), type := 0, pos := "law.go:50", after := #[{ on := 4, ground := Ground.data }, { on := 1, ground := Ground.data }, { on := 3, ground := Ground.chain }, { on := 0, ground := Ground.phase }, { on := 1, ground := Ground.phase }, { on := 2, ground := Ground.textOnly Departure.lateStores }, { on := 3, ground := Ground.textOnly Departure.lateStoresUnsure }, { on := 4, ground := Ground.phase }, { on := 5, ground := Ground.phase }], guard := none }, { dst := none, op := Op.store 25 (Operand.tmp 8) (Operand.tmp 18), type := 0, pos := "law.go:50", after := #[{ on := 5, ground := Ground.data }, { on := 3, ground := Ground.data }, { on := 6, ground := Ground.chain }, { on := 0, ground := Ground.phase }, { on := 1, ground := Ground.phase }, { on := 2, ground := Ground.phase }, { on := 3, ground := Ground.phase }, { on := 4, ground := Ground.phase }, { on := 5, ground := Ground.phase }, { on := 6, ground := Ground.phase }], guard := none }] := ⟨_, rfl⟩
  rw [← hops]
  have hAl1 := lt_of_heap hA1
  have hAl2 := lt_of_heap hA2
  have st2_3 : ∀ (p1 p2 : Nat) (W : World), Below w1.heap.size w1 W → W.heap[p1]? = some (.cells #[.int .i64 0, .int .i64 0] 25 (0, 0)) → W.heap[p2]? = some (.cells #[.int .i64 0, .int .i64 0] 25 (0, 0)) → w1.heap.size ≤ p1 → w1.heap.size ≤ p2 → p1 ≠ p2 → (W.cell? ⟨A, 0, none⟩ = some (.int .i64 x) ∧ W.cell? ⟨A, 1, none⟩ = some (.int .i64 y) ∧ W.cell? ⟨A + 1, 0, none⟩ = some (.int .i64 z) ∧ W.cell? ⟨A + 1, 1, none⟩ = some (.int .i64 u)) → wpAnyH Try.prog .any ops Q (fun W => W.cell? ⟨A, 0, none⟩ = some (.int .i64 x) ∧ W.cell? ⟨A, 1, none⟩ = some (.int .i64 y) ∧ W.cell? ⟨A + 1, 0, none⟩ = some (.int .i64 z) ∧ W.cell? ⟨A + 1, 1, none⟩ = some (.int .i64 u)) 2 #[true, true, true, true, true, true, false, false] ⟨#[x0, x1, x2, .pointer (some ⟨A, 0, none⟩), .pointer (some ⟨A + 1, 0, none⟩), x5, x6, .pointer (some ⟨p1, 0, none⟩), .pointer (some ⟨p2, 0, none⟩), x9, x10, x11, x12, x13, x14, .agg #[.int .i64 x, .int .i64 y], .agg #[.int .i64 a, .int .i64 b], .agg #[.int .i64 z, .int .i64 u], .agg #[.int .i64 c, .int .i64 d], x19, x20, x21, x22, x23, x24, x25, x26, x27, x28, x29, x30, x31, x32, x33, x34, x35, x36, x37, x38, x39, x40, x41, x42, x43, x44, x45, x46, x47, x48, x49, x50, x51, x52, x53, x54, x55, x56, x57, x58, x59, x60, x61, x62, x63, x64, x65, x66, x67, x68, x69, x70, x71, x72, x73, x74, x75, x76, x77, x78, x79, x80, x81, x82, x83, x84, x85, x86, x87, x88, x89, x90, x91, x92, x93, x94, x95, x96, x97, x98, x99, x100, x101, x102, x103, x104, x105, x106, x107, x108, x109, x110, x111, x112, x113, x114, x115, x116, x117, x118, x119, x120, x121, x122, x123], []⟩ W := by
    intro p1 p2 W HB Hp1 Hp2 Gp1 Gp2 Dp1p2 hHeld
    subst hops
    have HB' : Hid (Below w1.heap.size w1 W) := HB
    have HHp1 : Hid (W.heap[p1]? = some (.cells #[.int .i64 0, .int .i64 0] 25 (0, 0))) := Hp1
    have HHp2 : Hid (W.heap[p2]? = some (.cells #[.int .i64 0, .int .i64 0] 25 (0, 0))) := Hp2
    clear HB Hp1 Hp2
    refine wpAnyH_ready (rs := [6]) (by kernel_rfl) (by simp) ?_
    refine AllReadyH.cons rfl (fun K hK => ?_) AllReadyH.nil
    obtain ⟨y0, y1, f0, f1⟩ := agg2 HHp1.out
    go_simp
    obtain ⟨W1, hW1⟩ : ∃ W', W' = (W.setCell ⟨p1, 0, none⟩ (.int .i64 a)).setCell ⟨p1, 1, none⟩ (.int .i64 b) := ⟨_, rfl⟩
    have HB0 : Hid (Below w1.heap.size w1 W1) := by rw [hW1]; exact set2_below HB'.out _ Gp1 _ _
    have HKp1 : Hid (W1.heap[p1]? = some (.cells #[.int .i64 a, .int .i64 b] 25 (0, 0))) := by rw [hW1]; exact set2_heap HHp1.out _ _
    have HKp2 : Hid (W1.heap[p2]? = some (.cells #[.int .i64 0, .int .i64 0] 25 (0, 0))) := by rw [hW1]; exact (set2_other (by first | exact Dp2p1 | exact Dp1p2 | exact Ne.symm Dp1p2 | exact Ne.symm Dp2p1) _ _).trans HHp2.out
    rw [← hW1]
    refine hK.out _ _ ⟨?_, ?_, ?_, ?_⟩ (fun hHeld => ?_)
    · rw [hW1, World.cell?_setCell_other _ _ _ _ (by intro h; simp only [Addr.mk.injEq] at h; omega), World.cell?_setCell_other _ _ _ _ (by intro h; simp only [Addr.mk.injEq] at h; omega)]; exact hHeld.1
    · rw [hW1, World.cell?_setCell_other _ _ _ _ (by intro h; simp only [Addr.mk.injEq] at h; omega), World.cell?_setCell_other _ _ _ _ (by intro h; simp only [Addr.mk.injEq] at h; omega)]; exact hHeld.2.1
    · rw [hW1, World.cell?_setCell_other _ _ _ _ (by intro h; simp only [Addr.mk.injEq] at h; omega), World.cell?_setCell_other _ _ _ _ (by intro h; simp only [Addr.mk.injEq] at h; omega)]; exact hHeld.2.2.1
    · rw [hW1, World.cell?_setCell_other _ _ _ _ (by intro h; simp only [Addr.mk.injEq] at h; omega), World.cell?_setCell_other _ _ _ _ (by intro h; simp only [Addr.mk.injEq] at h; omega)]; exact hHeld.2.2.2
    clear hK K y0 y1 f0 f1 hW1 HHp1 HHp2
    have HHp1 := HKp1; have HHp2 := HKp2
    clear HKp1 HKp2
    refine wpAnyH_ready (rs := [7]) (by kernel_rfl) (by simp) ?_
    refine AllReadyH.cons rfl (fun K hK => ?_) AllReadyH.nil
    obtain ⟨y0, y1, f0, f1⟩ := agg2 HHp2.out
    go_simp
    obtain ⟨W2, hW2⟩ : ∃ W', W' = (W1.setCell ⟨p2, 0, none⟩ (.int .i64 c)).setCell ⟨p2, 1, none⟩ (.int .i64 d) := ⟨_, rfl⟩
    have HB1 : Hid (Below w1.heap.size w1 W2) := by rw [hW2]; exact set2_below HB0.out _ Gp2 _ _
    have HKp1 : Hid (W2.heap[p1]? = some (.cells #[.int .i64 a, .int .i64 b] 25 (0, 0))) := by rw [hW2]; exact (set2_other (by first | exact Dp1p2 | exact Dp2p1 | exact Ne.symm Dp2p1 | exact Ne.symm Dp1p2) _ _).trans HHp1.out
    have HKp2 : Hid (W2.heap[p2]? = some (.cells #[.int .i64 c, .int .i64 d] 25 (0, 0))) := by rw [hW2]; exact set2_heap HHp2.out _ _
    rw [← hW2]
    refine hK.out _ _ ⟨?_, ?_, ?_, ?_⟩ (fun hHeld => ?_)
    · rw [hW2, World.cell?_setCell_other _ _ _ _ (by intro h; simp only [Addr.mk.injEq] at h; omega), World.cell?_setCell_other _ _ _ _ (by intro h; simp only [Addr.mk.injEq] at h; omega)]; exact hHeld.1
    · rw [hW2, World.cell?_setCell_other _ _ _ _ (by intro h; simp only [Addr.mk.injEq] at h; omega), World.cell?_setCell_other _ _ _ _ (by intro h; simp only [Addr.mk.injEq] at h; omega)]; exact hHeld.2.1
    · rw [hW2, World.cell?_setCell_other _ _ _ _ (by intro h; simp only [Addr.mk.injEq] at h; omega), World.cell?_setCell_other _ _ _ _ (by intro h; simp only [Addr.mk.injEq] at h; omega)]; exact hHeld.2.2.1
    · rw [hW2, World.cell?_setCell_other _ _ _ _ (by intro h; simp only [Addr.mk.injEq] at h; omega), World.cell?_setCell_other _ _ _ _ (by intro h; simp only [Addr.mk.injEq] at h; omega)]; exact hHeld.2.2.2
    clear hK K y0 y1 f0 f1 hW2 HHp1 HHp2
    have HHp1 := HKp1; have HHp2 := HKp2
    clear HKp1 HKp2
    refine wpAnyH_done (by kernel_rfl) ?_ _
    exact hfin p1 p2 _ HB1.out Gp1 Gp2 Dp1p2 HHp1.out HHp2.out
  have st2_1 : ∀ (p1 : Nat) (W : World), Below w1.heap.size w1 W → W.heap[p1]? = some (.cells #[.int .i64 0, .int .i64 0] 25 (0, 0)) → w1.heap.size ≤ p1 → (W.cell? ⟨A, 0, none⟩ = some (.int .i64 x) ∧ W.cell? ⟨A, 1, none⟩ = some (.int .i64 y) ∧ W.cell? ⟨A + 1, 0, none⟩ = some (.int .i64 z) ∧ W.cell? ⟨A + 1, 1, none⟩ = some (.int .i64 u)) → wpAnyH Try.prog .any ops Q (fun W => W.cell? ⟨A, 0, none⟩ = some (.int .i64 x) ∧ W.cell? ⟨A, 1, none⟩ = some (.int .i64 y) ∧ W.cell? ⟨A + 1, 0, none⟩ = some (.int .i64 z) ∧ W.cell? ⟨A + 1, 1, none⟩ = some (.int .i64 u)) 3 #[true, true, true, true, true, false, false, false] ⟨#[x0, x1, x2, .pointer (some ⟨A, 0, none⟩), .pointer (some ⟨A + 1, 0, none⟩), x5, x6, .pointer (some ⟨p1, 0, none⟩), x8, x9, x10, x11, x12, x13, x14, .agg #[.int .i64 x, .int .i64 y], .agg #[.int .i64 a, .int .i64 b], .agg #[.int .i64 z, .int .i64 u], .agg #[.int .i64 c, .int .i64 d], x19, x20, x21, x22, x23, x24, x25, x26, x27, x28, x29, x30, x31, x32, x33, x34, x35, x36, x37, x38, x39, x40, x41, x42, x43, x44, x45, x46, x47, x48, x49, x50, x51, x52, x53, x54, x55, x56, x57, x58, x59, x60, x61, x62, x63, x64, x65, x66, x67, x68, x69, x70, x71, x72, x73, x74, x75, x76, x77, x78, x79, x80, x81, x82, x83, x84, x85, x86, x87, x88, x89, x90, x91, x92, x93, x94, x95, x96, x97, x98, x99, x100, x101, x102, x103, x104, x105, x106, x107, x108, x109, x110, x111, x112, x113, x114, x115, x116, x117, x118, x119, x120, x121, x122, x123], []⟩ W := by
    intro p1 W HB Hp1 Gp1 hHeld
    have HB' : Hid (Below w1.heap.size w1 W) := HB
    subst hops
    refine wpAnyH_ready (rs := [5]) (by kernel_rfl) (by simp) ?_
    refine AllReadyH.cons rfl (fun K hK => ?_) AllReadyH.nil
    go_simp
    try go_wp2_with fail
    exact hK.out _ _ ⟨(((Below.refl W.heap.size W).alloc (Nat.le_refl _) _).cell (p := ⟨A, 0, none⟩) (lt_of_cell hHeld.1)).trans hHeld.1, (((Below.refl W.heap.size W).alloc (Nat.le_refl _) _).cell (p := ⟨A, 1, none⟩) (lt_of_cell hHeld.2.1)).trans hHeld.2.1, (((Below.refl W.heap.size W).alloc (Nat.le_refl _) _).cell (p := ⟨A + 1, 0, none⟩) (lt_of_cell hHeld.2.2.1)).trans hHeld.2.2.1, (((Below.refl W.heap.size W).alloc (Nat.le_refl _) _).cell (p := ⟨A + 1, 1, none⟩) (lt_of_cell hHeld.2.2.2)).trans hHeld.2.2.2⟩ (fun hHeld => st2_3 p1 W.heap.size _ (HB'.out.alloc HB'.out.size _) ((Below.heap_alloc _ _ _ (lt_of_heap Hp1)).trans Hp1) (heap_alloc_new W _) Gp1 HB'.out.size (fun e => Nat.lt_irrefl _ (e ▸ lt_of_heap Hp1)) hHeld)
  have st2_2 : ∀ (p2 : Nat) (W : World), Below w1.heap.size w1 W → W.heap[p2]? = some (.cells #[.int .i64 0, .int .i64 0] 25 (0, 0)) → w1.heap.size ≤ p2 → (W.cell? ⟨A, 0, none⟩ = some (.int .i64 x) ∧ W.cell? ⟨A, 1, none⟩ = some (.int .i64 y) ∧ W.cell? ⟨A + 1, 0, none⟩ = some (.int .i64 z) ∧ W.cell? ⟨A + 1, 1, none⟩ = some (.int .i64 u)) → wpAnyH Try.prog .any ops Q (fun W => W.cell? ⟨A, 0, none⟩ = some (.int .i64 x) ∧ W.cell? ⟨A, 1, none⟩ = some (.int .i64 y) ∧ W.cell? ⟨A + 1, 0, none⟩ = some (.int .i64 z) ∧ W.cell? ⟨A + 1, 1, none⟩ = some (.int .i64 u)) 3 #[true, true, true, true, false, true, false, false] ⟨#[x0, x1, x2, .pointer (some ⟨A, 0, none⟩), .pointer (some ⟨A + 1, 0, none⟩), x5, x6, x7, .pointer (some ⟨p2, 0, none⟩), x9, x10, x11, x12, x13, x14, .agg #[.int .i64 x, .int .i64 y], .agg #[.int .i64 a, .int .i64 b], .agg #[.int .i64 z, .int .i64 u], .agg #[.int .i64 c, .int .i64 d], x19, x20, x21, x22, x23, x24, x25, x26, x27, x28, x29, x30, x31, x32, x33, x34, x35, x36, x37, x38, x39, x40, x41, x42, x43, x44, x45, x46, x47, x48, x49, x50, x51, x52, x53, x54, x55, x56, x57, x58, x59, x60, x61, x62, x63, x64, x65, x66, x67, x68, x69, x70, x71, x72, x73, x74, x75, x76, x77, x78, x79, x80, x81, x82, x83, x84, x85, x86, x87, x88, x89, x90, x91, x92, x93, x94, x95, x96, x97, x98, x99, x100, x101, x102, x103, x104, x105, x106, x107, x108, x109, x110, x111, x112, x113, x114, x115, x116, x117, x118, x119, x120, x121, x122, x123], []⟩ W := by
    intro p2 W HB Hp2 Gp2 hHeld
    have HB' : Hid (Below w1.heap.size w1 W) := HB
    subst hops
    refine wpAnyH_ready (rs := [4]) (by kernel_rfl) (by simp) ?_
    refine AllReadyH.cons rfl (fun K hK => ?_) AllReadyH.nil
    go_simp
    try go_wp2_with fail
    exact hK.out _ _ ⟨(((Below.refl W.heap.size W).alloc (Nat.le_refl _) _).cell (p := ⟨A, 0, none⟩) (lt_of_cell hHeld.1)).trans hHeld.1, (((Below.refl W.heap.size W).alloc (Nat.le_refl _) _).cell (p := ⟨A, 1, none⟩) (lt_of_cell hHeld.2.1)).trans hHeld.2.1, (((Below.refl W.heap.size W).alloc (Nat.le_refl _) _).cell (p := ⟨A + 1, 0, none⟩) (lt_of_cell hHeld.2.2.1)).trans hHeld.2.2.1, (((Below.refl W.heap.size W).alloc (Nat.le_refl _) _).cell (p := ⟨A + 1, 1, none⟩) (lt_of_cell hHeld.2.2.2)).trans hHeld.2.2.2⟩ (fun hHeld => st2_3 W.heap.size p2 _ (HB'.out.alloc HB'.out.size _) (heap_alloc_new W _) ((Below.heap_alloc _ _ _ (lt_of_heap Hp2)).trans Hp2) HB'.out.size Gp2 (fun e => Nat.lt_irrefl _ (e ▸ lt_of_heap Hp2)) hHeld)
  have st2_0 : ∀ (W : World), Below w1.heap.size w1 W → (W.cell? ⟨A, 0, none⟩ = some (.int .i64 x) ∧ W.cell? ⟨A, 1, none⟩ = some (.int .i64 y) ∧ W.cell? ⟨A + 1, 0, none⟩ = some (.int .i64 z) ∧ W.cell? ⟨A + 1, 1, none⟩ = some (.int .i64 u)) → wpAnyH Try.prog .any ops Q (fun W => W.cell? ⟨A, 0, none⟩ = some (.int .i64 x) ∧ W.cell? ⟨A, 1, none⟩ = some (.int .i64 y) ∧ W.cell? ⟨A + 1, 0, none⟩ = some (.int .i64 z) ∧ W.cell? ⟨A + 1, 1, none⟩ = some (.int .i64 u)) 4 #[true, true, true, true, false, false, false, false] ⟨#[x0, x1, x2, .pointer (some ⟨A, 0, none⟩), .pointer (some ⟨A + 1, 0, none⟩), x5, x6, x7, x8, x9, x10, x11, x12, x13, x14, .agg #[.int .i64 x, .int .i64 y], .agg #[.int .i64 a, .int .i64 b], .agg #[.int .i64 z, .int .i64 u], .agg #[.int .i64 c, .int .i64 d], x19, x20, x21, x22, x23, x24, x25, x26, x27, x28, x29, x30, x31, x32, x33, x34, x35, x36, x37, x38, x39, x40, x41, x42, x43, x44, x45, x46, x47, x48, x49, x50, x51, x52, x53, x54, x55, x56, x57, x58, x59, x60, x61, x62, x63, x64, x65, x66, x67, x68, x69, x70, x71, x72, x73, x74, x75, x76, x77, x78, x79, x80, x81, x82, x83, x84, x85, x86, x87, x88, x89, x90, x91, x92, x93, x94, x95, x96, x97, x98, x99, x100, x101, x102, x103, x104, x105, x106, x107, x108, x109, x110, x111, x112, x113, x114, x115, x116, x117, x118, x119, x120, x121, x122, x123], []⟩ W := by
    intro  W HB hHeld
    have HB' : Hid (Below w1.heap.size w1 W) := HB
    subst hops
    refine wpAnyH_ready (rs := [4, 5]) (by kernel_rfl) (by simp) ?_
    refine AllReadyH.cons rfl (fun K hK => ?_) ?_
    · go_simp
      try go_wp2_with fail
      exact hK.out _ _ ⟨(((Below.refl W.heap.size W).alloc (Nat.le_refl _) _).cell (p := ⟨A, 0, none⟩) (lt_of_cell hHeld.1)).trans hHeld.1, (((Below.refl W.heap.size W).alloc (Nat.le_refl _) _).cell (p := ⟨A, 1, none⟩) (lt_of_cell hHeld.2.1)).trans hHeld.2.1, (((Below.refl W.heap.size W).alloc (Nat.le_refl _) _).cell (p := ⟨A + 1, 0, none⟩) (lt_of_cell hHeld.2.2.1)).trans hHeld.2.2.1, (((Below.refl W.heap.size W).alloc (Nat.le_refl _) _).cell (p := ⟨A + 1, 1, none⟩) (lt_of_cell hHeld.2.2.2)).trans hHeld.2.2.2⟩ (fun hHeld => st2_1 W.heap.size _ (HB'.out.alloc HB'.out.size _) (heap_alloc_new W _) HB'.out.size  hHeld)
    refine AllReadyH.cons rfl (fun K hK => ?_) AllReadyH.nil
    go_simp
    try go_wp2_with fail
    exact hK.out _ _ ⟨(((Below.refl W.heap.size W).alloc (Nat.le_refl _) _).cell (p := ⟨A, 0, none⟩) (lt_of_cell hHeld.1)).trans hHeld.1, (((Below.refl W.heap.size W).alloc (Nat.le_refl _) _).cell (p := ⟨A, 1, none⟩) (lt_of_cell hHeld.2.1)).trans hHeld.2.1, (((Below.refl W.heap.size W).alloc (Nat.le_refl _) _).cell (p := ⟨A + 1, 0, none⟩) (lt_of_cell hHeld.2.2.1)).trans hHeld.2.2.1, (((Below.refl W.heap.size W).alloc (Nat.le_refl _) _).cell (p := ⟨A + 1, 1, none⟩) (lt_of_cell hHeld.2.2.2)).trans hHeld.2.2.2⟩ (fun hHeld => st2_2 W.heap.size _ (HB'.out.alloc HB'.out.size _) (heap_alloc_new W _) HB'.out.size  hHeld)
  have st1_3 : ∀ (p1 p2 : Nat) (W : World), Below w1.heap.size w1 W → W.heap[p1]? = some (.cells #[.int .i64 0, .int .i64 0] 25 (0, 0)) → W.heap[p2]? = some (.cells #[.int .i64 0, .int .i64 0] 25 (0, 0)) → w1.heap.size ≤ p1 → w1.heap.size ≤ p2 → p1 ≠ p2 → (W.cell? ⟨A, 0, none⟩ = some (.int .i64 x) ∧ W.cell? ⟨A, 1, none⟩ = some (.int .i64 y) ∧ W.cell? ⟨A + 1, 0, none⟩ = some (.int .i64 z) ∧ W.cell? ⟨A + 1, 1, none⟩ = some (.int .i64 u)) → wpAnyH Try.prog .any ops Q (fun W => W.cell? ⟨A, 0, none⟩ = some (.int .i64 x) ∧ W.cell? ⟨A, 1, none⟩ = some (.int .i64 y) ∧ W.cell? ⟨A + 1, 0, none⟩ = some (.int .i64 z) ∧ W.cell? ⟨A + 1, 1, none⟩ = some (.int .i64 u)) 3 #[true, true, true, false, true, true, false, false] ⟨#[x0, x1, x2, .pointer (some ⟨A, 0, none⟩), .pointer (some ⟨A + 1, 0, none⟩), x5, x6, .pointer (some ⟨p1, 0, none⟩), .pointer (some ⟨p2, 0, none⟩), x9, x10, x11, x12, x13, x14, .agg #[.int .i64 x, .int .i64 y], .agg #[.int .i64 a, .int .i64 b], .agg #[.int .i64 z, .int .i64 u], x18, x19, x20, x21, x22, x23, x24, x25, x26, x27, x28, x29, x30, x31, x32, x33, x34, x35, x36, x37, x38, x39, x40, x41, x42, x43, x44, x45, x46, x47, x48, x49, x50, x51, x52, x53, x54, x55, x56, x57, x58, x59, x60, x61, x62, x63, x64, x65, x66, x67, x68, x69, x70, x71, x72, x73, x74, x75, x76, x77, x78, x79, x80, x81, x82, x83, x84, x85, x86, x87, x88, x89, x90, x91, x92, x93, x94, x95, x96, x97, x98, x99, x100, x101, x102, x103, x104, x105, x106, x107, x108, x109, x110, x111, x112, x113, x114, x115, x116, x117, x118, x119, x120, x121, x122, x123], []⟩ W := by
    intro p1 p2 W HB Hp1 Hp2 Gp1 Gp2 Dp1p2 hHeld
    have HB' : Hid (Below w1.heap.size w1 W) := HB
    subst hops
    refine wpAnyH_ready (rs := [3]) (by kernel_rfl) (by simp) ?_
    refine AllReadyH.cons rfl (fun K hK => ?_) AllReadyH.nil
    go_simp
    go_wp2_with fail
    refine (HM2 _).mono ?_
    rintro r wn ⟨rfl, hbn⟩
    exact hK.out _ _ ⟨(hbn.cell (p := ⟨A, 0, none⟩) (lt_of_cell hHeld.1)).trans hHeld.1, (hbn.cell (p := ⟨A, 1, none⟩) (lt_of_cell hHeld.2.1)).trans hHeld.2.1, (hbn.cell (p := ⟨A + 1, 0, none⟩) (lt_of_cell hHeld.2.2.1)).trans hHeld.2.2.1, (hbn.cell (p := ⟨A + 1, 1, none⟩) (lt_of_cell hHeld.2.2.2)).trans hHeld.2.2.2⟩ (fun hHeld => st2_3 p1 p2 wn (HB'.out.trans (hbn.mono HB'.out.size)) ((hbn.block _ (lt_of_heap Hp1)).trans Hp1) ((hbn.block _ (lt_of_heap Hp2)).trans Hp2) Gp1 Gp2 Dp1p2 hHeld)
  have st1_1 : ∀ (p1 : Nat) (W : World), Below w1.heap.size w1 W → W.heap[p1]? = some (.cells #[.int .i64 0, .int .i64 0] 25 (0, 0)) → w1.heap.size ≤ p1 → (W.cell? ⟨A, 0, none⟩ = some (.int .i64 x) ∧ W.cell? ⟨A, 1, none⟩ = some (.int .i64 y) ∧ W.cell? ⟨A + 1, 0, none⟩ = some (.int .i64 z) ∧ W.cell? ⟨A + 1, 1, none⟩ = some (.int .i64 u)) → wpAnyH Try.prog .any ops Q (fun W => W.cell? ⟨A, 0, none⟩ = some (.int .i64 x) ∧ W.cell? ⟨A, 1, none⟩ = some (.int .i64 y) ∧ W.cell? ⟨A + 1, 0, none⟩ = some (.int .i64 z) ∧ W.cell? ⟨A + 1, 1, none⟩ = some (.int .i64 u)) 4 #[true, true, true, false, true, false, false, false] ⟨#[x0, x1, x2, .pointer (some ⟨A, 0, none⟩), .pointer (some ⟨A + 1, 0, none⟩), x5, x6, .pointer (some ⟨p1, 0, none⟩), x8, x9, x10, x11, x12, x13, x14, .agg #[.int .i64 x, .int .i64 y], .agg #[.int .i64 a, .int .i64 b], .agg #[.int .i64 z, .int .i64 u], x18, x19, x20, x21, x22, x23, x24, x25, x26, x27, x28, x29, x30, x31, x32, x33, x34, x35, x36, x37, x38, x39, x40, x41, x42, x43, x44, x45, x46, x47, x48, x49, x50, x51, x52, x53, x54, x55, x56, x57, x58, x59, x60, x61, x62, x63, x64, x65, x66, x67, x68, x69, x70, x71, x72, x73, x74, x75, x76, x77, x78, x79, x80, x81, x82, x83, x84, x85, x86, x87, x88, x89, x90, x91, x92, x93, x94, x95, x96, x97, x98, x99, x100, x101, x102, x103, x104, x105, x106, x107, x108, x109, x110, x111, x112, x113, x114, x115, x116, x117, x118, x119, x120, x121, x122, x123], []⟩ W := by
    intro p1 W HB Hp1 Gp1 hHeld
    have HB' : Hid (Below w1.heap.size w1 W) := HB
    subst hops
    refine wpAnyH_ready (rs := [3, 5]) (by kernel_rfl) (by simp) ?_
    refine AllReadyH.cons rfl (fun K hK => ?_) ?_
    · go_simp
      go_wp2_with fail
      refine (HM2 _).mono ?_
      rintro r wn ⟨rfl, hbn⟩
      exact hK.out _ _ ⟨(hbn.cell (p := ⟨A, 0, none⟩) (lt_of_cell hHeld.1)).trans hHeld.1, (hbn.cell (p := ⟨A, 1, none⟩) (lt_of_cell hHeld.2.1)).trans hHeld.2.1, (hbn.cell (p := ⟨A + 1, 0, none⟩) (lt_of_cell hHeld.2.2.1)).trans hHeld.2.2.1, (hbn.cell (p := ⟨A + 1, 1, none⟩) (lt_of_cell hHeld.2.2.2)).trans hHeld.2.2.2⟩ (fun hHeld => st2_1 p1 wn (HB'.out.trans (hbn.mono HB'.out.size)) ((hbn.block _ (lt_of_heap Hp1)).trans Hp1) Gp1  hHeld)
    refine AllReadyH.cons rfl (fun K hK => ?_) AllReadyH.nil
    go_simp
    try go_wp2_with fail
    exact hK.out _ _ ⟨(((Below.refl W.heap.size W).alloc (Nat.le_refl _) _).cell (p := ⟨A, 0, none⟩) (lt_of_cell hHeld.1)).trans hHeld.1, (((Below.refl W.heap.size W).alloc (Nat.le_refl _) _).cell (p := ⟨A, 1, none⟩) (lt_of_cell hHeld.2.1)).trans hHeld.2.1, (((Below.refl W.heap.size W).alloc (Nat.le_refl _) _).cell (p := ⟨A + 1, 0, none⟩) (lt_of_cell hHeld.2.2.1)).trans hHeld.2.2.1, (((Below.refl W.heap.size W).alloc (Nat.le_refl _) _).cell (p := ⟨A + 1, 1, none⟩) (lt_of_cell hHeld.2.2.2)).trans hHeld.2.2.2⟩ (fun hHeld => st1_3 p1 W.heap.size _ (HB'.out.alloc HB'.out.size _) ((Below.heap_alloc _ _ _ (lt_of_heap Hp1)).trans Hp1) (heap_alloc_new W _) Gp1 HB'.out.size (fun e => Nat.lt_irrefl _ (e ▸ lt_of_heap Hp1)) hHeld)
  have st1_2 : ∀ (p2 : Nat) (W : World), Below w1.heap.size w1 W → W.heap[p2]? = some (.cells #[.int .i64 0, .int .i64 0] 25 (0, 0)) → w1.heap.size ≤ p2 → (W.cell? ⟨A, 0, none⟩ = some (.int .i64 x) ∧ W.cell? ⟨A, 1, none⟩ = some (.int .i64 y) ∧ W.cell? ⟨A + 1, 0, none⟩ = some (.int .i64 z) ∧ W.cell? ⟨A + 1, 1, none⟩ = some (.int .i64 u)) → wpAnyH Try.prog .any ops Q (fun W => W.cell? ⟨A, 0, none⟩ = some (.int .i64 x) ∧ W.cell? ⟨A, 1, none⟩ = some (.int .i64 y) ∧ W.cell? ⟨A + 1, 0, none⟩ = some (.int .i64 z) ∧ W.cell? ⟨A + 1, 1, none⟩ = some (.int .i64 u)) 4 #[true, true, true, false, false, true, false, false] ⟨#[x0, x1, x2, .pointer (some ⟨A, 0, none⟩), .pointer (some ⟨A + 1, 0, none⟩), x5, x6, x7, .pointer (some ⟨p2, 0, none⟩), x9, x10, x11, x12, x13, x14, .agg #[.int .i64 x, .int .i64 y], .agg #[.int .i64 a, .int .i64 b], .agg #[.int .i64 z, .int .i64 u], x18, x19, x20, x21, x22, x23, x24, x25, x26, x27, x28, x29, x30, x31, x32, x33, x34, x35, x36, x37, x38, x39, x40, x41, x42, x43, x44, x45, x46, x47, x48, x49, x50, x51, x52, x53, x54, x55, x56, x57, x58, x59, x60, x61, x62, x63, x64, x65, x66, x67, x68, x69, x70, x71, x72, x73, x74, x75, x76, x77, x78, x79, x80, x81, x82, x83, x84, x85, x86, x87, x88, x89, x90, x91, x92, x93, x94, x95, x96, x97, x98, x99, x100, x101, x102, x103, x104, x105, x106, x107, x108, x109, x110, x111, x112, x113, x114, x115, x116, x117, x118, x119, x120, x121, x122, x123], []⟩ W := by
    intro p2 W HB Hp2 Gp2 hHeld
    have HB' : Hid (Below w1.heap.size w1 W) := HB
    subst hops
    refine wpAnyH_ready (rs := [3, 4]) (by kernel_rfl) (by simp) ?_
    refine AllReadyH.cons rfl (fun K hK => ?_) ?_
    · go_simp
      go_wp2_with fail
      refine (HM2 _).mono ?_
      rintro r wn ⟨rfl, hbn⟩
      exact hK.out _ _ ⟨(hbn.cell (p := ⟨A, 0, none⟩) (lt_of_cell hHeld.1)).trans hHeld.1, (hbn.cell (p := ⟨A, 1, none⟩) (lt_of_cell hHeld.2.1)).trans hHeld.2.1, (hbn.cell (p := ⟨A + 1, 0, none⟩) (lt_of_cell hHeld.2.2.1)).trans hHeld.2.2.1, (hbn.cell (p := ⟨A + 1, 1, none⟩) (lt_of_cell hHeld.2.2.2)).trans hHeld.2.2.2⟩ (fun hHeld => st2_2 p2 wn (HB'.out.trans (hbn.mono HB'.out.size)) ((hbn.block _ (lt_of_heap Hp2)).trans Hp2) Gp2  hHeld)
    refine AllReadyH.cons rfl (fun K hK => ?_) AllReadyH.nil
    go_simp
    try go_wp2_with fail
    exact hK.out _ _ ⟨(((Below.refl W.heap.size W).alloc (Nat.le_refl _) _).cell (p := ⟨A, 0, none⟩) (lt_of_cell hHeld.1)).trans hHeld.1, (((Below.refl W.heap.size W).alloc (Nat.le_refl _) _).cell (p := ⟨A, 1, none⟩) (lt_of_cell hHeld.2.1)).trans hHeld.2.1, (((Below.refl W.heap.size W).alloc (Nat.le_refl _) _).cell (p := ⟨A + 1, 0, none⟩) (lt_of_cell hHeld.2.2.1)).trans hHeld.2.2.1, (((Below.refl W.heap.size W).alloc (Nat.le_refl _) _).cell (p := ⟨A + 1, 1, none⟩) (lt_of_cell hHeld.2.2.2)).trans hHeld.2.2.2⟩ (fun hHeld => st1_3 W.heap.size p2 _ (HB'.out.alloc HB'.out.size _) (heap_alloc_new W _) ((Below.heap_alloc _ _ _ (lt_of_heap Hp2)).trans Hp2) HB'.out.size Gp2 (fun e => Nat.lt_irrefl _ (e ▸ lt_of_heap Hp2)) hHeld)
  have st1_0 : ∀ (W : World), Below w1.heap.size w1 W → (W.cell? ⟨A, 0, none⟩ = some (.int .i64 x) ∧ W.cell? ⟨A, 1, none⟩ = some (.int .i64 y) ∧ W.cell? ⟨A + 1, 0, none⟩ = some (.int .i64 z) ∧ W.cell? ⟨A + 1, 1, none⟩ = some (.int .i64 u)) → wpAnyH Try.prog .any ops Q (fun W => W.cell? ⟨A, 0, none⟩ = some (.int .i64 x) ∧ W.cell? ⟨A, 1, none⟩ = some (.int .i64 y) ∧ W.cell? ⟨A + 1, 0, none⟩ = some (.int .i64 z) ∧ W.cell? ⟨A + 1, 1, none⟩ = some (.int .i64 u)) 5 #[true, true, true, false, false, false, false, false] ⟨#[x0, x1, x2, .pointer (some ⟨A, 0, none⟩), .pointer (some ⟨A + 1, 0, none⟩), x5, x6, x7, x8, x9, x10, x11, x12, x13, x14, .agg #[.int .i64 x, .int .i64 y], .agg #[.int .i64 a, .int .i64 b], .agg #[.int .i64 z, .int .i64 u], x18, x19, x20, x21, x22, x23, x24, x25, x26, x27, x28, x29, x30, x31, x32, x33, x34, x35, x36, x37, x38, x39, x40, x41, x42, x43, x44, x45, x46, x47, x48, x49, x50, x51, x52, x53, x54, x55, x56, x57, x58, x59, x60, x61, x62, x63, x64, x65, x66, x67, x68, x69, x70, x71, x72, x73, x74, x75, x76, x77, x78, x79, x80, x81, x82, x83, x84, x85, x86, x87, x88, x89, x90, x91, x92, x93, x94, x95, x96, x97, x98, x99, x100, x101, x102, x103, x104, x105, x106, x107, x108, x109, x110, x111, x112, x113, x114, x115, x116, x117, x118, x119, x120, x121, x122, x123], []⟩ W := by
    intro  W HB hHeld
    have HB' : Hid (Below w1.heap.size w1 W) := HB
    subst hops
    refine wpAnyH_ready (rs := [3, 4, 5]) (by kernel_rfl) (by simp) ?_
    refine AllReadyH.cons rfl (fun K hK => ?_) ?_
    · go_simp
      go_wp2_with fail
      refine (HM2 _).mono ?_
      rintro r wn ⟨rfl, hbn⟩
      exact hK.out _ _ ⟨(hbn.cell (p := ⟨A, 0, none⟩) (lt_of_cell hHeld.1)).trans hHeld.1, (hbn.cell (p := ⟨A, 1, none⟩) (lt_of_cell hHeld.2.1)).trans hHeld.2.1, (hbn.cell (p := ⟨A + 1, 0, none⟩) (lt_of_cell hHeld.2.2.1)).trans hHeld.2.2.1, (hbn.cell (p := ⟨A + 1, 1, none⟩) (lt_of_cell hHeld.2.2.2)).trans hHeld.2.2.2⟩ (fun hHeld => st2_0  wn (HB'.out.trans (hbn.mono HB'.out.size))    hHeld)
    refine AllReadyH.cons rfl (fun K hK => ?_) ?_
    · go_simp
      try go_wp2_with fail
      exact hK.out _ _ ⟨(((Below.refl W.heap.size W).alloc (Nat.le_refl _) _).cell (p := ⟨A, 0, none⟩) (lt_of_cell hHeld.1)).trans hHeld.1, (((Below.refl W.heap.size W).alloc (Nat.le_refl _) _).cell (p := ⟨A, 1, none⟩) (lt_of_cell hHeld.2.1)).trans hHeld.2.1, (((Below.refl W.heap.size W).alloc (Nat.le_refl _) _).cell (p := ⟨A + 1, 0, none⟩) (lt_of_cell hHeld.2.2.1)).trans hHeld.2.2.1, (((Below.refl W.heap.size W).alloc (Nat.le_refl _) _).cell (p := ⟨A + 1, 1, none⟩) (lt_of_cell hHeld.2.2.2)).trans hHeld.2.2.2⟩ (fun hHeld => st1_1 W.heap.size _ (HB'.out.alloc HB'.out.size _) (heap_alloc_new W _) HB'.out.size  hHeld)
    refine AllReadyH.cons rfl (fun K hK => ?_) AllReadyH.nil
    go_simp
    try go_wp2_with fail
    exact hK.out _ _ ⟨(((Below.refl W.heap.size W).alloc (Nat.le_refl _) _).cell (p := ⟨A, 0, none⟩) (lt_of_cell hHeld.1)).trans hHeld.1, (((Below.refl W.heap.size W).alloc (Nat.le_refl _) _).cell (p := ⟨A, 1, none⟩) (lt_of_cell hHeld.2.1)).trans hHeld.2.1, (((Below.refl W.heap.size W).alloc (Nat.le_refl _) _).cell (p := ⟨A + 1, 0, none⟩) (lt_of_cell hHeld.2.2.1)).trans hHeld.2.2.1, (((Below.refl W.heap.size W).alloc (Nat.le_refl _) _).cell (p := ⟨A + 1, 1, none⟩) (lt_of_cell hHeld.2.2.2)).trans hHeld.2.2.2⟩ (fun hHeld => st1_2 W.heap.size _ (HB'.out.alloc HB'.out.size _) (heap_alloc_new W _) HB'.out.size  hHeld)
  have st0_3 : ∀ (p1 p2 : Nat) (W : World), Below w1.heap.size w1 W → W.heap[p1]? = some (.cells #[.int .i64 0, .int .i64 0] 25 (0, 0)) → W.heap[p2]? = some (.cells #[.int .i64 0, .int .i64 0] 25 (0, 0)) → w1.heap.size ≤ p1 → w1.heap.size ≤ p2 → p1 ≠ p2 → (W.cell? ⟨A, 0, none⟩ = some (.int .i64 x) ∧ W.cell? ⟨A, 1, none⟩ = some (.int .i64 y) ∧ W.cell? ⟨A + 1, 0, none⟩ = some (.int .i64 z) ∧ W.cell? ⟨A + 1, 1, none⟩ = some (.int .i64 u)) → wpAnyH Try.prog .any ops Q (fun W => W.cell? ⟨A, 0, none⟩ = some (.int .i64 x) ∧ W.cell? ⟨A, 1, none⟩ = some (.int .i64 y) ∧ W.cell? ⟨A + 1, 0, none⟩ = some (.int .i64 z) ∧ W.cell? ⟨A + 1, 1, none⟩ = some (.int .i64 u)) 4 #[true, false, true, false, true, true, false, false] ⟨#[x0, x1, x2, .pointer (some ⟨A, 0, none⟩), .pointer (some ⟨A + 1, 0, none⟩), x5, x6, .pointer (some ⟨p1, 0, none⟩), .pointer (some ⟨p2, 0, none⟩), x9, x10, x11, x12, x13, x14, .agg #[.int .i64 x, .int .i64 y], x16, .agg #[.int .i64 z, .int .i64 u], x18, x19, x20, x21, x22, x23, x24, x25, x26, x27, x28, x29, x30, x31, x32, x33, x34, x35, x36, x37, x38, x39, x40, x41, x42, x43, x44, x45, x46, x47, x48, x49, x50, x51, x52, x53, x54, x55, x56, x57, x58, x59, x60, x61, x62, x63, x64, x65, x66, x67, x68, x69, x70, x71, x72, x73, x74, x75, x76, x77, x78, x79, x80, x81, x82, x83, x84, x85, x86, x87, x88, x89, x90, x91, x92, x93, x94, x95, x96, x97, x98, x99, x100, x101, x102, x103, x104, x105, x106, x107, x108, x109, x110, x111, x112, x113, x114, x115, x116, x117, x118, x119, x120, x121, x122, x123], []⟩ W := by
    intro p1 p2 W HB Hp1 Hp2 Gp1 Gp2 Dp1p2 hHeld
    have HB' : Hid (Below w1.heap.size w1 W) := HB
    subst hops
    refine wpAnyH_ready (rs := [1]) (by kernel_rfl) (by simp) ?_
    refine AllReadyH.cons rfl (fun K hK => ?_) AllReadyH.nil
    go_simp
    go_wp2_with fail
    refine (HM1 _).mono ?_
    rintro r wn ⟨rfl, hbn⟩
    exact hK.out _ _ ⟨(hbn.cell (p := ⟨A, 0, none⟩) (lt_of_cell hHeld.1)).trans hHeld.1, (hbn.cell (p := ⟨A, 1, none⟩) (lt_of_cell hHeld.2.1)).trans hHeld.2.1, (hbn.cell (p := ⟨A + 1, 0, none⟩) (lt_of_cell hHeld.2.2.1)).trans hHeld.2.2.1, (hbn.cell (p := ⟨A + 1, 1, none⟩) (lt_of_cell hHeld.2.2.2)).trans hHeld.2.2.2⟩ (fun hHeld => st1_3 p1 p2 wn (HB'.out.trans (hbn.mono HB'.out.size)) ((hbn.block _ (lt_of_heap Hp1)).trans Hp1) ((hbn.block _ (lt_of_heap Hp2)).trans Hp2) Gp1 Gp2 Dp1p2 hHeld)
  have st0_1 : ∀ (p1 : Nat) (W : World), Below w1.heap.size w1 W → W.heap[p1]? = some (.cells #[.int .i64 0, .int .i64 0] 25 (0, 0)) → w1.heap.size ≤ p1 → (W.cell? ⟨A, 0, none⟩ = some (.int .i64 x) ∧ W.cell? ⟨A, 1, none⟩ = some (.int .i64 y) ∧ W.cell? ⟨A + 1, 0, none⟩ = some (.int .i64 z) ∧ W.cell? ⟨A + 1, 1, none⟩ = some (.int .i64 u)) → wpAnyH Try.prog .any ops Q (fun W => W.cell? ⟨A, 0, none⟩ = some (.int .i64 x) ∧ W.cell? ⟨A, 1, none⟩ = some (.int .i64 y) ∧ W.cell? ⟨A + 1, 0, none⟩ = some (.int .i64 z) ∧ W.cell? ⟨A + 1, 1, none⟩ = some (.int .i64 u)) 5 #[true, false, true, false, true, false, false, false] ⟨#[x0, x1, x2, .pointer (some ⟨A, 0, none⟩), .pointer (some ⟨A + 1, 0, none⟩), x5, x6, .pointer (some ⟨p1, 0, none⟩), x8, x9, x10, x11, x12, x13, x14, .agg #[.int .i64 x, .int .i64 y], x16, .agg #[.int .i64 z, .int .i64 u], x18, x19, x20, x21, x22, x23, x24, x25, x26, x27, x28, x29, x30, x31, x32, x33, x34, x35, x36, x37, x38, x39, x40, x41, x42, x43, x44, x45, x46, x47, x48, x49, x50, x51, x52, x53, x54, x55, x56, x57, x58, x59, x60, x61, x62, x63, x64, x65, x66, x67, x68, x69, x70, x71, x72, x73, x74, x75, x76, x77, x78, x79, x80, x81, x82, x83, x84, x85, x86, x87, x88, x89, x90, x91, x92, x93, x94, x95, x96, x97, x98, x99, x100, x101, x102, x103, x104, x105, x106, x107, x108, x109, x110, x111, x112, x113, x114, x115, x116, x117, x118, x119, x120, x121, x122, x123], []⟩ W := by
    intro p1 W HB Hp1 Gp1 hHeld
    have HB' : Hid (Below w1.heap.size w1 W) := HB
    subst hops
    refine wpAnyH_ready (rs := [1, 5]) (by kernel_rfl) (by simp) ?_
    refine AllReadyH.cons rfl (fun K hK => ?_) ?_
    · go_simp
      go_wp2_with fail
      refine (HM1 _).mono ?_
      rintro r wn ⟨rfl, hbn⟩
      exact hK.out _ _ ⟨(hbn.cell (p := ⟨A, 0, none⟩) (lt_of_cell hHeld.1)).trans hHeld.1, (hbn.cell (p := ⟨A, 1, none⟩) (lt_of_cell hHeld.2.1)).trans hHeld.2.1, (hbn.cell (p := ⟨A + 1, 0, none⟩) (lt_of_cell hHeld.2.2.1)).trans hHeld.2.2.1, (hbn.cell (p := ⟨A + 1, 1, none⟩) (lt_of_cell hHeld.2.2.2)).trans hHeld.2.2.2⟩ (fun hHeld => st1_1 p1 wn (HB'.out.trans (hbn.mono HB'.out.size)) ((hbn.block _ (lt_of_heap Hp1)).trans Hp1) Gp1  hHeld)
    refine AllReadyH.cons rfl (fun K hK => ?_) AllReadyH.nil
    go_simp
    try go_wp2_with fail
    exact hK.out _ _ ⟨(((Below.refl W.heap.size W).alloc (Nat.le_refl _) _).cell (p := ⟨A, 0, none⟩) (lt_of_cell hHeld.1)).trans hHeld.1, (((Below.refl W.heap.size W).alloc (Nat.le_refl _) _).cell (p := ⟨A, 1, none⟩) (lt_of_cell hHeld.2.1)).trans hHeld.2.1, (((Below.refl W.heap.size W).alloc (Nat.le_refl _) _).cell (p := ⟨A + 1, 0, none⟩) (lt_of_cell hHeld.2.2.1)).trans hHeld.2.2.1, (((Below.refl W.heap.size W).alloc (Nat.le_refl _) _).cell (p := ⟨A + 1, 1, none⟩) (lt_of_cell hHeld.2.2.2)).trans hHeld.2.2.2⟩ (fun hHeld => st0_3 p1 W.heap.size _ (HB'.out.alloc HB'.out.size _) ((Below.heap_alloc _ _ _ (lt_of_heap Hp1)).trans Hp1) (heap_alloc_new W _) Gp1 HB'.out.size (fun e => Nat.lt_irrefl _ (e ▸ lt_of_heap Hp1)) hHeld)
  have st0_2 : ∀ (p2 : Nat) (W : World), Below w1.heap.size w1 W → W.heap[p2]? = some (.cells #[.int .i64 0, .int .i64 0] 25 (0, 0)) → w1.heap.size ≤ p2 → (W.cell? ⟨A, 0, none⟩ = some (.int .i64 x) ∧ W.cell? ⟨A, 1, none⟩ = some (.int .i64 y) ∧ W.cell? ⟨A + 1, 0, none⟩ = some (.int .i64 z) ∧ W.cell? ⟨A + 1, 1, none⟩ = some (.int .i64 u)) → wpAnyH Try.prog .any ops Q (fun W => W.cell? ⟨A, 0, none⟩ = some (.int .i64 x) ∧ W.cell? ⟨A, 1, none⟩ = some (.int .i64 y) ∧ W.cell? ⟨A + 1, 0, none⟩ = some (.int .i64 z) ∧ W.cell? ⟨A + 1, 1, none⟩ = some (.int .i64 u)) 5 #[true, false, true, false, false, true, false, false] ⟨#[x0, x1, x2, .pointer (some ⟨A, 0, none⟩), .pointer (some ⟨A + 1, 0, none⟩), x5, x6, x7, .pointer (some ⟨p2, 0, none⟩), x9, x10, x11, x12, x13, x14, .agg #[.int .i64 x, .int .i64 y], x16, .agg #[.int .i64 z, .int .i64 u], x18, x19, x20, x21, x22, x23, x24, x25, x26, x27, x28, x29, x30, x31, x32, x33, x34, x35, x36, x37, x38, x39, x40, x41, x42, x43, x44, x45, x46, x47, x48, x49, x50, x51, x52, x53, x54, x55, x56, x57, x58, x59, x60, x61, x62, x63, x64, x65, x66, x67, x68, x69, x70, x71, x72, x73, x74, x75, x76, x77, x78, x79, x80, x81, x82, x83, x84, x85, x86, x87, x88, x89, x90, x91, x92, x93, x94, x95, x96, x97, x98, x99, x100, x101, x102, x103, x104, x105, x106, x107, x108, x109, x110, x111, x112, x113, x114, x115, x116, x117, x118, x119, x120, x121, x122, x123], []⟩ W := by
    intro p2 W HB Hp2 Gp2 hHeld
    have HB' : Hid (Below w1.heap.size w1 W) := HB
    subst hops
    refine wpAnyH_ready (rs := [1, 4]) (by kernel_rfl) (by simp) ?_
    refine AllReadyH.cons rfl (fun K hK => ?_) ?_
    · go_simp
      go_wp2_with fail
      refine (HM1 _).mono ?_
      rintro r wn ⟨rfl, hbn⟩
      exact hK.out _ _ ⟨(hbn.cell (p := ⟨A, 0, none⟩) (lt_of_cell hHeld.1)).trans hHeld.1, (hbn.cell (p := ⟨A, 1, none⟩) (lt_of_cell hHeld.2.1)).trans hHeld.2.1, (hbn.cell (p := ⟨A + 1, 0, none⟩) (lt_of_cell hHeld.2.2.1)).trans hHeld.2.2.1, (hbn.cell (p := ⟨A + 1, 1, none⟩) (lt_of_cell hHeld.2.2.2)).trans hHeld.2.2.2⟩ (fun hHeld => st1_2 p2 wn (HB'.out.trans (hbn.mono HB'.out.size)) ((hbn.block _ (lt_of_heap Hp2)).trans Hp2) Gp2  hHeld)
    refine AllReadyH.cons rfl (fun K hK => ?_) AllReadyH.nil
    go_simp
    try go_wp2_with fail
    exact hK.out _ _ ⟨(((Below.refl W.heap.size W).alloc (Nat.le_refl _) _).cell (p := ⟨A, 0, none⟩) (lt_of_cell hHeld.1)).trans hHeld.1, (((Below.refl W.heap.size W).alloc (Nat.le_refl _) _).cell (p := ⟨A, 1, none⟩) (lt_of_cell hHeld.2.1)).trans hHeld.2.1, (((Below.refl W.heap.size W).alloc (Nat.le_refl _) _).cell (p := ⟨A + 1, 0, none⟩) (lt_of_cell hHeld.2.2.1)).trans hHeld.2.2.1, (((Below.refl W.heap.size W).alloc (Nat.le_refl _) _).cell (p := ⟨A + 1, 1, none⟩) (lt_of_cell hHeld.2.2.2)).trans hHeld.2.2.2⟩ (fun hHeld => st0_3 W.heap.size p2 _ (HB'.out.alloc HB'.out.size _) (heap_alloc_new W _) ((Below.heap_alloc _ _ _ (lt_of_heap Hp2)).trans Hp2) HB'.out.size Gp2 (fun e => Nat.lt_irrefl _ (e ▸ lt_of_heap Hp2)) hHeld)
  have st0_0 : ∀ (W : World), Below w1.heap.size w1 W → (W.cell? ⟨A, 0, none⟩ = some (.int .i64 x) ∧ W.cell? ⟨A, 1, none⟩ = some (.int .i64 y) ∧ W.cell? ⟨A + 1, 0, none⟩ = some (.int .i64 z) ∧ W.cell? ⟨A + 1, 1, none⟩ = some (.int .i64 u)) → wpAnyH Try.prog .any ops Q (fun W => W.cell? ⟨A, 0, none⟩ = some (.int .i64 x) ∧ W.cell? ⟨A, 1, none⟩ = some (.int .i64 y) ∧ W.cell? ⟨A + 1, 0, none⟩ = some (.int .i64 z) ∧ W.cell? ⟨A + 1, 1, none⟩ = some (.int .i64 u)) 6 #[true, false, true, false, false, false, false, false] ⟨#[x0, x1, x2, .pointer (some ⟨A, 0, none⟩), .pointer (some ⟨A + 1, 0, none⟩), x5, x6, x7, x8, x9, x10, x11, x12, x13, x14, .agg #[.int .i64 x, .int .i64 y], x16, .agg #[.int .i64 z, .int .i64 u], x18, x19, x20, x21, x22, x23, x24, x25, x26, x27, x28, x29, x30, x31, x32, x33, x34, x35, x36, x37, x38, x39, x40, x41, x42, x43, x44, x45, x46, x47, x48, x49, x50, x51, x52, x53, x54, x55, x56, x57, x58, x59, x60, x61, x62, x63, x64, x65, x66, x67, x68, x69, x70, x71, x72, x73, x74, x75, x76, x77, x78, x79, x80, x81, x82, x83, x84, x85, x86, x87, x88, x89, x90, x91, x92, x93, x94, x95, x96, x97, x98, x99, x100, x101, x102, x103, x104, x105, x106, x107, x108, x109, x110, x111, x112, x113, x114, x115, x116, x117, x118, x119, x120, x121, x122, x123], []⟩ W := by
    intro  W HB hHeld
    have HB' : Hid (Below w1.heap.size w1 W) := HB
    subst hops
    refine wpAnyH_ready (rs := [1, 4, 5]) (by kernel_rfl) (by simp) ?_
    refine AllReadyH.cons rfl (fun K hK => ?_) ?_
    · go_simp
      go_wp2_with fail
      refine (HM1 _).mono ?_
      rintro r wn ⟨rfl, hbn⟩
      exact hK.out _ _ ⟨(hbn.cell (p := ⟨A, 0, none⟩) (lt_of_cell hHeld.1)).trans hHeld.1, (hbn.cell (p := ⟨A, 1, none⟩) (lt_of_cell hHeld.2.1)).trans hHeld.2.1, (hbn.cell (p := ⟨A + 1, 0, none⟩) (lt_of_cell hHeld.2.2.1)).trans hHeld.2.2.1, (hbn.cell (p := ⟨A + 1, 1, none⟩) (lt_of_cell hHeld.2.2.2)).trans hHeld.2.2.2⟩ (fun hHeld => st1_0  wn (HB'.out.trans (hbn.mono HB'.out.size))    hHeld)
    refine AllReadyH.cons rfl (fun K hK => ?_) ?_
    · go_simp
      try go_wp2_with fail
      exact hK.out _ _ ⟨(((Below.refl W.heap.size W).alloc (Nat.le_refl _) _).cell (p := ⟨A, 0, none⟩) (lt_of_cell hHeld.1)).trans hHeld.1, (((Below.refl W.heap.size W).alloc (Nat.le_refl _) _).cell (p := ⟨A, 1, none⟩) (lt_of_cell hHeld.2.1)).trans hHeld.2.1, (((Below.refl W.heap.size W).alloc (Nat.le_refl _) _).cell (p := ⟨A + 1, 0, none⟩) (lt_of_cell hHeld.2.2.1)).trans hHeld.2.2.1, (((Below.refl W.heap.size W).alloc (Nat.le_refl _) _).cell (p := ⟨A + 1, 1, none⟩) (lt_of_cell hHeld.2.2.2)).trans hHeld.2.2.2⟩ (fun hHeld => st0_1 W.heap.size _ (HB'.out.alloc HB'.out.size _) (heap_alloc_new W _) HB'.out.size  hHeld)
    refine AllReadyH.cons rfl (fun K hK => ?_) AllReadyH.nil
    go_simp
    try go_wp2_with fail
    exact hK.out _ _ ⟨(((Below.refl W.heap.size W).alloc (Nat.le_refl _) _).cell (p := ⟨A, 0, none⟩) (lt_of_cell hHeld.1)).trans hHeld.1, (((Below.refl W.heap.size W).alloc (Nat.le_refl _) _).cell (p := ⟨A, 1, none⟩) (lt_of_cell hHeld.2.1)).trans hHeld.2.1, (((Below.refl W.heap.size W).alloc (Nat.le_refl _) _).cell (p := ⟨A + 1, 0, none⟩) (lt_of_cell hHeld.2.2.1)).trans hHeld.2.2.1, (((Below.refl W.heap.size W).alloc (Nat.le_refl _) _).cell (p := ⟨A + 1, 1, none⟩) (lt_of_cell hHeld.2.2.2)).trans hHeld.2.2.2⟩ (fun hHeld => st0_2 W.heap.size _ (HB'.out.alloc HB'.out.size _) (heap_alloc_new W _) HB'.out.size  hHeld)
  refine wp_region_held_drew (S := fun W => W.cell? ⟨A, 0, none⟩ = some (.int .i64 x) ∧ W.cell? ⟨A, 1, none⟩ = some (.int .i64 y) ∧ W.cell? ⟨A + 1, 0, none⟩ = some (.int .i64 z) ∧ W.cell? ⟨A + 1, 1, none⟩ = some (.int .i64 u)) (by kernel_rfl) (by exact ⟨cell_of_heap hA1 0 _ rfl, cell_of_heap hA1 1 _ rfl, cell_of_heap hA2 0 _ rfl, cell_of_heap hA2 1 _ rfl⟩) (fun hHeld => ?_)
  rw [hops]
  change wpAnyH _ _ _ _ _ 8 (Array.replicate 8 false) _ _
  refine wpAnyH_take (i := 0) (oi := _) (v := _) (by simp only [List.getElem?_toArray, List.getElem?_cons_zero]; rfl) (by kernel_rfl) (by kernel_rfl) (by kernel_rfl) (by exact fun _ _ _ h => hQp _ _ _ _ _ h) (Or.inl ⟨by rfl, by intro w' hSw; (try dsimp only at hSw); first | (go_simp; done) | (go_simp; with_reducible rfl)⟩) hHeld ?_
  simp only [Act.put, List.setIfInBounds_toArray, List.set_cons_zero, List.set_cons_succ]
  refine wpAnyH_take (i := 2) (oi := _) (v := _) (by simp only [List.getElem?_toArray, List.getElem?_cons_succ, List.getElem?_cons_zero]; rfl) (by kernel_rfl) (by kernel_rfl) (by kernel_rfl) (by exact fun _ _ _ h => hQp _ _ _ _ _ h) (Or.inl ⟨by rfl, by intro w' hSw; (try dsimp only at hSw); first | (go_simp; done) | (go_simp; with_reducible rfl)⟩) hHeld ?_
  simp only [Act.put, List.setIfInBounds_toArray, List.set_cons_zero, List.set_cons_succ]
  rw [← hops]
  exact st0_0 _ (Below.refl _ _).drew hHeld


theorem mul_ends {a b m : Int} (h : a ≤ b) : mnF (capF (a * m)) (capF (b * m)) = (if m < 0 then capF (b * m) else capF (a * m)) ∧ mxF (capF (a * m)) (capF (b * m)) = (if m < 0 then capF (a * m) else capF (b * m)) := by
  by_cases hm : m < 0
  · rw [if_pos hm, if_pos hm]
    have := capF_mono (mul_anti h (Int.le_of_lt hm))
    generalize capF (a * m) = x at *
    generalize capF (b * m) = y at *
    unfold mnF mxF
    constructor <;> split <;> omega
  · rw [if_neg hm, if_neg hm]
    have := capF_mono (mul_mono h (Int.not_lt.1 hm))
    generalize capF (a * m) = x at *
    generalize capF (b * m) = y at *
    unfold mnF mxF
    constructor <;> split <;> omega

theorem ite_want {b : Bool} {A B : Prop} (h : b = true) (ha : A) : if b = true then A else B := by rw [if_pos h]; exact ha

def least_reg9_ops : Array Oper := (List.toArray (List.append [{ dst := some 37, op := Op.load 25 (Operand.tmp 7), type := 25, pos := "law.go:57", after := #[], guard := none }, { dst := some 38, op := Op.load 25 (Operand.tmp 8), type := 25, pos := "law.go:57", after := #[], guard := none }, { dst := some 39, op := Op.call { callee := Callee.value (Operand.func 10), args := #[Operand.tmp 37, Operand.tmp 38], argTypes := #[25, 25] }, type := 25, pos := "law.go:57", after := #[{ on := 0, ground := Ground.data }, { on := 1, ground := Ground.data }], guard := none }, { dst := some 40, op := Op.move (Operand.tmp 10), type := 27, pos := "law.go:57", after := #[], guard := none }, { dst := some 41, op := Op.fieldAddr 25 (Operand.tmp 7) 0, type := 0, pos := "law.go:57", after := #[], guard := none }, { dst := some 42, op := Op.load 3 (Operand.tmp 41), type := 3, pos := "law.go:57", after := #[{ on := 4, ground := Ground.data }], guard := none }, { dst := some 43, op := Op.fieldAddr 25 (Operand.tmp 8) 0, type := 0, pos := "law.go:57", after := #[], guard := none }, { dst := some 44, op := Op.load 3 (Operand.tmp 43), type := 3, pos := "law.go:57", after := #[{ on := 6, ground := Ground.data }], guard := none }, { dst := some 45, op := Op.binOp BinOp.add 3 (Operand.tmp 42) (Operand.tmp 44) 3, type := 3, pos := "law.go:57", after := #[{ on := 5, ground := Ground.data }, { on := 7, ground := Ground.data }], guard := none }, { dst := some 46, op := Op.call { callee := Callee.value (Operand.tmp 40), args := #[Operand.tmp 45], argTypes := #[3] }, type := 3, pos := "law.go:57", after := #[{ on := 3, ground := Ground.data }, { on := 8, ground := Ground.data }, { on := 2, ground := Ground.chain }], guard := none }, { dst := some 47, op := Op.move (Operand.tmp 10), type := 27, pos := "law.go:57", after := #[], guard := none }, { dst := some 48, op := Op.fieldAddr 25 (Operand.tmp 7) 1, type := 0, pos := "law.go:57", after := #[], guard := none }, { dst := some 49, op := Op.load 3 (Operand.tmp 48), type := 3, pos := "law.go:57", after := #[{ on := 11, ground := Ground.data }], guard := none }, { dst := some 50, op := Op.fieldAddr 25 (Operand.tmp 8) 1, type := 0, pos := "law.go:57", after := #[], guard := none }, { dst := some 51, op := Op.load 3 (Operand.tmp 50), type := 3, pos := "law.go:57", after := #[{ on := 13, ground := Ground.data }], guard := none }, { dst := some 52, op := Op.binOp BinOp.add 3 (Operand.tmp 49) (Operand.tmp 51) 3, type := 3, pos := "law.go:57", after := #[{ on := 12, ground := Ground.data }, { on := 14, ground := Ground.data }], guard := none }, { dst := some 53, op := Op.call { callee := Callee.value (Operand.tmp 47), args := #[Operand.tmp 52], argTypes := #[3] }, type := 3, pos := "law.go:57", after := #[{ on := 10, ground := Ground.data }, { on := 15, ground := Ground.data }, { on := 9, ground := Ground.chain }], guard := none }, { dst := some 54, op := Op.build 25 #[(0, Operand.tmp 46), (1, Operand.tmp 53)], type := 25, pos := "law.go:57", after := #[{ on := 9, ground := Ground.data }, { on := 16, ground := Ground.data }], guard := none }, { dst := some 55, op := Op.binOp BinOp.eql 25 (Operand.tmp 39) (Operand.tmp 54) 25, type := 4, pos := "law.go:57", after := #[{ on := 2, ground := Ground.data }, { on := 17, ground := Ground.data }], guard := none }, { dst := some 56, op := Op.move (Operand.tmp 55), type := 4, pos := "law.go:57", after := #[{ on := 18, ground := Ground.data }, { on := 16, ground := Ground.chain }], guard := none }, { dst := some 57, op := Op.load 25 (Operand.tmp 7), type := 25, pos := "law.go:57", after := #[{ on := 19, ground := Ground.guard }], guard := some (19, true) }, { dst := some 58, op := Op.load 25 (Operand.tmp 8), type := 25, pos := "law.go:57", after := #[{ on := 19, ground := Ground.guard }], guard := some (19, true) }, { dst := some 59, op := Op.call { callee := Callee.value (Operand.func 11), args := #[Operand.tmp 57, Operand.tmp 58], argTypes := #[25, 25] }, type := 25, pos := "law.go:57", after := #[{ on := 20, ground := Ground.data }, { on := 21, ground := Ground.data }, { on := 19, ground := Ground.chain }, { on := 19, ground := Ground.guard }], guard := some (19, true) }, { dst := some 60, op := Op.move (Operand.tmp 10), type := 27, pos := "law.go:57", after := #[{ on := 19, ground := Ground.guard }], guard := some (19, true) }, { dst := some 61, op := Op.fieldAddr 25 (Operand.tmp 7) 0, type := 0, pos := "law.go:57", after := #[{ on := 19, ground := Ground.guard }], guard := some (19, true) }, { dst := some 62, op := Op.load 3 (Operand.tmp 61), type := 3, pos := "law.go:57", after := #[{ on := 24, ground := Ground.data }, { on := 19, ground := Ground.guard }], guard := some (19, true) }, { dst := some 63, op := Op.fieldAddr 25 (Operand.tmp 8) 1, type := 0, pos := "law.go:57", after := #[{ on := 19, ground := Ground.guard }], guard := some (19, true) }, { dst := some 64, op := Op.load 3 (Operand.tmp 63), type := 3, pos := "law.go:57", after := #[{ on := 26, ground := Ground.data }, { on := 19, ground := Ground.guard }], guard := some (19, true) }, { dst := some 65, op := Op.binOp BinOp.sub 3 (Operand.tmp 62) (Operand.tmp 64) 3, type := 3, pos := "law.go:57", after := #[{ on := 25, ground := Ground.data }, { on := 27, ground := Ground.data }, { on := 19, ground := Ground.guard }], guard := some (19, true) }, { dst := some 66, op := Op.call { callee := Callee.value (Operand.tmp 60), args := #[Operand.tmp 65], argTypes := #[3] }, type := 3, pos := "law.go:57", after := #[{ on := 23, ground := Ground.data }, { on := 28, ground := Ground.data }, { on := 22, ground := Ground.chain }, { on := 19, ground := Ground.guard }], guard := some (19, true) }, { dst := some 67, op := Op.move (Operand.tmp 10), type := 27, pos := "law.go:57", after := #[{ on := 19, ground := Ground.guard }], guard := some (19, true) }, { dst := some 68, op := Op.fieldAddr 25 (Operand.tmp 7) 1, type := 0, pos := "law.go:57", after := #[{ on := 19, ground := Ground.guard }], guard := some (19, true) }, { dst := some 69, op := Op.load 3 (Operand.tmp 68), type := 3, pos := "law.go:57", after := #[{ on := 31, ground := Ground.data }, { on := 19, ground := Ground.guard }], guard := some (19, true) }, { dst := some 70, op := Op.fieldAddr 25 (Operand.tmp 8) 0, type := 0, pos := "law.go:57", after := #[{ on := 19, ground := Ground.guard }], guard := some (19, true) }, { dst := some 71, op := Op.load 3 (Operand.tmp 70), type := 3, pos := "law.go:57", after := #[{ on := 33, ground := Ground.data }, { on := 19, ground := Ground.guard }], guard := some (19, true) }, { dst := some 72, op := Op.binOp BinOp.sub 3 (Operand.tmp 69) (Operand.tmp 71) 3, type := 3, pos := "law.go:57", after := #[{ on := 32, ground := Ground.data }, { on := 34, ground := Ground.data }, { on := 19, ground := Ground.guard }], guard := some (19, true) }, { dst := some 73, op := Op.call { callee := Callee.value (Operand.tmp 67), args := #[Operand.tmp 72], argTypes := #[3] }, type := 3, pos := "law.go:57", after := #[{ on := 30, ground := Ground.data }, { on := 35, ground := Ground.data }, { on := 29, ground := Ground.chain }, { on := 19, ground := Ground.guard }], guard := some (19, true) }, { dst := some 74, op := Op.build 25 #[(0, Operand.tmp 66), (1, Operand.tmp 73)], type := 25, pos := "law.go:57", after := #[{ on := 29, ground := Ground.data }, { on := 36, ground := Ground.data }, { on := 19, ground := Ground.guard }], guard := some (19, true) }, { dst := some 75, op := Op.binOp BinOp.eql 25 (Operand.tmp 59) (Operand.tmp 74) 25, type := 4, pos := "law.go:57", after := #[{ on := 22, ground := Ground.data }, { on := 37, ground := Ground.data }, { on := 19, ground := Ground.guard }], guard := some (19, true) }, { dst := some 76, op := Op.pick (Operand.tmp 56) (Operand.tmp 75) (Operand.const (Value.bool false)), type := 4, pos := "law.go:57", after := #[{ on := 19, ground := Ground.data }, { on := 38, ground := Ground.data }], guard := none }, { dst := some 77, op := Op.move (Operand.tmp 76), type := 4, pos := "law.go:57", after := #[{ on := 39, ground := Ground.data }, { on := 36, ground := Ground.chain }], guard := none }, { dst := some 78, op := Op.load 25 (Operand.tmp 7), type := 25, pos := "law.go:57", after := #[{ on := 40, ground := Ground.guard }], guard := some (40, true) }, { dst := some 79, op := Op.move (Operand.tmp 2), type := 3, pos := "law.go:57", after := #[{ on := 40, ground := Ground.guard }], guard := some (40, true) }, { dst := some 80, op := Op.call { callee := Callee.value (Operand.func 12), args := #[Operand.tmp 78, Operand.tmp 79], argTypes := #[25, 3] }, type := 25, pos := "law.go:57", after := #[{ on := 41, ground := Ground.data }, { on := 42, ground := Ground.data }, { on := 40, ground := Ground.chain }, { on := 40, ground := Ground.guard }], guard := some (40, true) }] [{ dst := some 81, op := Op.move (Operand.tmp 11), type := 3, pos := "law.go:57", after := #[{ on := 40, ground := Ground.guard }], guard := some (40, true) }, { dst := some 82, op := Op.move (Operand.tmp 12), type := 3, pos := "law.go:57", after := #[{ on := 40, ground := Ground.guard }], guard := some (40, true) }, { dst := some 83, op := Op.call { callee := Callee.builtin Builtin.min, args := #[Operand.tmp 81, Operand.tmp 82], argTypes := #[3, 3] }, type := 3, pos := "law.go:57", after := #[{ on := 44, ground := Ground.data }, { on := 45, ground := Ground.data }, { on := 40, ground := Ground.guard }], guard := some (40, true) }, { dst := some 84, op := Op.move (Operand.tmp 11), type := 3, pos := "law.go:57", after := #[{ on := 40, ground := Ground.guard }], guard := some (40, true) }, { dst := some 85, op := Op.move (Operand.tmp 12), type := 3, pos := "law.go:57", after := #[{ on := 40, ground := Ground.guard }], guard := some (40, true) }, { dst := some 86, op := Op.call { callee := Callee.builtin Builtin.max, args := #[Operand.tmp 84, Operand.tmp 85], argTypes := #[3, 3] }, type := 3, pos := "law.go:57", after := #[{ on := 47, ground := Ground.data }, { on := 48, ground := Ground.data }, { on := 40, ground := Ground.guard }], guard := some (40, true) }, { dst := some 87, op := Op.build 25 #[(0, Operand.tmp 83), (1, Operand.tmp 86)], type := 25, pos := "law.go:57", after := #[{ on := 46, ground := Ground.data }, { on := 49, ground := Ground.data }, { on := 40, ground := Ground.guard }], guard := some (40, true) }, { dst := some 88, op := Op.binOp BinOp.eql 25 (Operand.tmp 80) (Operand.tmp 87) 25, type := 4, pos := "law.go:57", after := #[{ on := 43, ground := Ground.data }, { on := 50, ground := Ground.data }, { on := 40, ground := Ground.guard }], guard := some (40, true) }, { dst := some 89, op := Op.pick (Operand.tmp 77) (Operand.tmp 88) (Operand.const (Value.bool false)), type := 4, pos := "law.go:57", after := #[{ on := 40, ground := Ground.data }, { on := 51, ground := Ground.data }], guard := none }, { dst := some 90, op := Op.move (Operand.tmp 89), type := 4, pos := "law.go:57", after := #[{ on := 52, ground := Ground.data }, { on := 43, ground := Ground.chain }], guard := none }, { dst := some 91, op := Op.load 25 (Operand.tmp 7), type := 25, pos := "law.go:57", after := #[{ on := 53, ground := Ground.guard }], guard := some (53, true) }, { dst := some 92, op := Op.move (Operand.tmp 9), type := 3, pos := "law.go:57", after := #[{ on := 53, ground := Ground.guard }], guard := some (53, true) }, { dst := some 93, op := Op.call { callee := Callee.value (Operand.func 13), args := #[Operand.tmp 91, Operand.tmp 92], argTypes := #[25, 3] }, type := 25, pos := "law.go:57", after := #[{ on := 54, ground := Ground.data }, { on := 55, ground := Ground.data }, { on := 53, ground := Ground.chain }, { on := 53, ground := Ground.guard }], guard := some (53, true) }, { dst := some 94, op := Op.fieldAddr 25 (Operand.tmp 7) 0, type := 0, pos := "law.go:57", after := #[{ on := 53, ground := Ground.guard }], guard := some (53, true) }, { dst := some 95, op := Op.load 3 (Operand.tmp 94), type := 3, pos := "law.go:57", after := #[{ on := 57, ground := Ground.data }, { on := 53, ground := Ground.guard }], guard := some (53, true) }, { dst := some 96, op := Op.call { callee := Callee.builtin Builtin.max, args := #[Operand.tmp 95, Operand.const (Value.int IntKind.i64 0)], argTypes := #[3, 3] }, type := 3, pos := "law.go:57", after := #[{ on := 58, ground := Ground.data }, { on := 53, ground := Ground.guard }], guard := some (53, true) }, { dst := some 97, op := Op.move (Operand.tmp 9), type := 3, pos := "law.go:57", after := #[{ on := 53, ground := Ground.guard }], guard := some (53, true) }, { dst := some 98, op := Op.call { callee := Callee.builtin Builtin.min, args := #[Operand.tmp 96, Operand.tmp 97], argTypes := #[3, 3] }, type := 3, pos := "law.go:57", after := #[{ on := 59, ground := Ground.data }, { on := 60, ground := Ground.data }, { on := 53, ground := Ground.guard }], guard := some (53, true) }, { dst := some 99, op := Op.fieldAddr 25 (Operand.tmp 7) 1, type := 0, pos := "law.go:57", after := #[{ on := 53, ground := Ground.guard }], guard := some (53, true) }, { dst := some 100, op := Op.load 3 (Operand.tmp 99), type := 3, pos := "law.go:57", after := #[{ on := 62, ground := Ground.data }, { on := 53, ground := Ground.guard }], guard := some (53, true) }, { dst := some 101, op := Op.call { callee := Callee.builtin Builtin.max, args := #[Operand.tmp 100, Operand.const (Value.int IntKind.i64 0)], argTypes := #[3, 3] }, type := 3, pos := "law.go:57", after := #[{ on := 63, ground := Ground.data }, { on := 53, ground := Ground.guard }], guard := some (53, true) }, { dst := some 102, op := Op.move (Operand.tmp 9), type := 3, pos := "law.go:57", after := #[{ on := 53, ground := Ground.guard }], guard := some (53, true) }, { dst := some 103, op := Op.call { callee := Callee.builtin Builtin.min, args := #[Operand.tmp 101, Operand.tmp 102], argTypes := #[3, 3] }, type := 3, pos := "law.go:57", after := #[{ on := 64, ground := Ground.data }, { on := 65, ground := Ground.data }, { on := 53, ground := Ground.guard }], guard := some (53, true) }, { dst := some 104, op := Op.build 25 #[(0, Operand.tmp 98), (1, Operand.tmp 103)], type := 25, pos := "law.go:57", after := #[{ on := 61, ground := Ground.data }, { on := 66, ground := Ground.data }, { on := 53, ground := Ground.guard }], guard := some (53, true) }, { dst := some 105, op := Op.binOp BinOp.eql 25 (Operand.tmp 93) (Operand.tmp 104) 25, type := 4, pos := "law.go:57", after := #[{ on := 56, ground := Ground.data }, { on := 67, ground := Ground.data }, { on := 53, ground := Ground.guard }], guard := some (53, true) }, { dst := some 106, op := Op.pick (Operand.tmp 90) (Operand.tmp 105) (Operand.const (Value.bool false)), type := 4, pos := "law.go:57", after := #[{ on := 53, ground := Ground.data }, { on := 68, ground := Ground.data }], guard := none }, { dst := some 107, op := Op.move (Operand.tmp 106), type := 4, pos := "law.go:57", after := #[{ on := 69, ground := Ground.data }, { on := 56, ground := Ground.chain }], guard := none }, { dst := some 108, op := Op.load 25 (Operand.tmp 7), type := 25, pos := "law.go:57", after := #[{ on := 70, ground := Ground.guard }], guard := some (70, true) }, { dst := some 109, op := Op.load 25 (Operand.tmp 8), type := 25, pos := "law.go:57", after := #[{ on := 70, ground := Ground.guard }], guard := some (70, true) }, { dst := some 110, op := Op.call { callee := Callee.value (Operand.func 14), args := #[Operand.tmp 108, Operand.tmp 109], argTypes := #[25, 25] }, type := 25, pos := "law.go:57", after := #[{ on := 71, ground := Ground.data }, { on := 72, ground := Ground.data }, { on := 70, ground := Ground.chain }, { on := 70, ground := Ground.guard }], guard := some (70, true) }, { dst := some 111, op := Op.fieldAddr 25 (Operand.tmp 7) 0, type := 0, pos := "law.go:57", after := #[{ on := 70, ground := Ground.guard }], guard := some (70, true) }, { dst := some 112, op := Op.load 3 (Operand.tmp 111), type := 3, pos := "law.go:57", after := #[{ on := 74, ground := Ground.data }, { on := 70, ground := Ground.guard }], guard := some (70, true) }, { dst := some 113, op := Op.fieldAddr 25 (Operand.tmp 8) 0, type := 0, pos := "law.go:57", after := #[{ on := 70, ground := Ground.guard }], guard := some (70, true) }, { dst := some 114, op := Op.load 3 (Operand.tmp 113), type := 3, pos := "law.go:57", after := #[{ on := 76, ground := Ground.data }, { on := 70, ground := Ground.guard }], guard := some (70, true) }, { dst := some 115, op := Op.call { callee := Callee.builtin Builtin.min, args := #[Operand.tmp 112, Operand.tmp 114], argTypes := #[3, 3] }, type := 3, pos := "law.go:57", after := #[{ on := 75, ground := Ground.data }, { on := 77, ground := Ground.data }, { on := 70, ground := Ground.guard }], guard := some (70, true) }, { dst := some 116, op := Op.fieldAddr 25 (Operand.tmp 7) 1, type := 0, pos := "law.go:57", after := #[{ on := 70, ground := Ground.guard }], guard := some (70, true) }, { dst := some 117, op := Op.load 3 (Operand.tmp 116), type := 3, pos := "law.go:57", after := #[{ on := 79, ground := Ground.data }, { on := 70, ground := Ground.guard }], guard := some (70, true) }, { dst := some 118, op := Op.fieldAddr 25 (Operand.tmp 8) 1, type := 0, pos := "law.go:57", after := #[{ on := 70, ground := Ground.guard }], guard := some (70, true) }, { dst := some 119, op := Op.load 3 (Operand.tmp 118), type := 3, pos := "law.go:57", after := #[{ on := 81, ground := Ground.data }, { on := 70, ground := Ground.guard }], guard := some (70, true) }, { dst := some 120, op := Op.call { callee := Callee.builtin Builtin.max, args := #[Operand.tmp 117, Operand.tmp 119], argTypes := #[3, 3] }, type := 3, pos := "law.go:57", after := #[{ on := 80, ground := Ground.data }, { on := 82, ground := Ground.data }, { on := 70, ground := Ground.guard }], guard := some (70, true) }, { dst := some 121, op := Op.build 25 #[(0, Operand.tmp 115), (1, Operand.tmp 120)], type := 25, pos := "law.go:57", after := #[{ on := 78, ground := Ground.data }, { on := 83, ground := Ground.data }, { on := 70, ground := Ground.guard }], guard := some (70, true) }, { dst := some 122, op := Op.binOp BinOp.eql 25 (Operand.tmp 110) (Operand.tmp 121) 25, type := 4, pos := "law.go:57", after := #[{ on := 73, ground := Ground.data }, { on := 84, ground := Ground.data }, { on := 70, ground := Ground.guard }], guard := some (70, true) }, { dst := some 123, op := Op.pick (Operand.tmp 107) (Operand.tmp 122) (Operand.const (Value.bool false)), type := 4, pos := "law.go:57", after := #[{ on := 70, ground := Ground.data }, { on := 85, ground := Ground.data }], guard := none }, { dst := some 6, op := Op.assign (Operand.tmp 123), type := 4, pos := "law.go:57", after := List.toArray (List.append [{ on := 86, ground := Ground.data }, { on := 73, ground := Ground.chain }, { on := 0, ground := Ground.phase }, { on := 1, ground := Ground.phase }, { on := 2, ground := Ground.phase }, { on := 3, ground := Ground.phase }, { on := 4, ground := Ground.phase }, { on := 5, ground := Ground.phase }, { on := 6, ground := Ground.phase }, { on := 7, ground := Ground.phase }, { on := 8, ground := Ground.phase }, { on := 9, ground := Ground.phase }, { on := 10, ground := Ground.phase }, { on := 11, ground := Ground.phase }, { on := 12, ground := Ground.phase }, { on := 13, ground := Ground.phase }, { on := 14, ground := Ground.phase }, { on := 15, ground := Ground.phase }, { on := 16, ground := Ground.phase }, { on := 17, ground := Ground.phase }, { on := 18, ground := Ground.phase }, { on := 19, ground := Ground.phase }, { on := 20, ground := Ground.phase }, { on := 21, ground := Ground.phase }, { on := 22, ground := Ground.phase }, { on := 23, ground := Ground.phase }, { on := 24, ground := Ground.phase }, { on := 25, ground := Ground.phase }, { on := 26, ground := Ground.phase }, { on := 27, ground := Ground.phase }, { on := 28, ground := Ground.phase }, { on := 29, ground := Ground.phase }, { on := 30, ground := Ground.phase }, { on := 31, ground := Ground.phase }, { on := 32, ground := Ground.phase }, { on := 33, ground := Ground.phase }, { on := 34, ground := Ground.phase }, { on := 35, ground := Ground.phase }, { on := 36, ground := Ground.phase }, { on := 37, ground := Ground.phase }, { on := 38, ground := Ground.phase }, { on := 39, ground := Ground.phase }, { on := 40, ground := Ground.phase }, { on := 41, ground := Ground.phase }] [{ on := 42, ground := Ground.phase }, { on := 43, ground := Ground.phase }, { on := 44, ground := Ground.phase }, { on := 45, ground := Ground.phase }, { on := 46, ground := Ground.phase }, { on := 47, ground := Ground.phase }, { on := 48, ground := Ground.phase }, { on := 49, ground := Ground.phase }, { on := 50, ground := Ground.phase }, { on := 51, ground := Ground.phase }, { on := 52, ground := Ground.phase }, { on := 53, ground := Ground.phase }, { on := 54, ground := Ground.phase }, { on := 55, ground := Ground.phase }, { on := 56, ground := Ground.phase }, { on := 57, ground := Ground.phase }, { on := 58, ground := Ground.phase }, { on := 59, ground := Ground.phase }, { on := 60, ground := Ground.phase }, { on := 61, ground := Ground.phase }, { on := 62, ground := Ground.phase }, { on := 63, ground := Ground.phase }, { on := 64, ground := Ground.phase }, { on := 65, ground := Ground.phase }, { on := 66, ground := Ground.phase }, { on := 67, ground := Ground.phase }, { on := 68, ground := Ground.phase }, { on := 69, ground := Ground.phase }, { on := 70, ground := Ground.phase }, { on := 71, ground := Ground.phase }, { on := 72, ground := Ground.phase }, { on := 73, ground := Ground.phase }, { on := 74, ground := Ground.phase }, { on := 75, ground := Ground.phase }, { on := 76, ground := Ground.phase }, { on := 77, ground := Ground.phase }, { on := 78, ground := Ground.phase }, { on := 79, ground := Ground.phase }, { on := 80, ground := Ground.phase }, { on := 81, ground := Ground.phase }, { on := 82, ground := Ground.phase }, { on := 83, ground := Ground.phase }, { on := 84, ground := Ground.phase }, { on := 85, ground := Ground.phase }, { on := 86, ground := Ground.phase }]), guard := none }]))

theorem least_reg9 {Q : Exit → Act → World → Prop} (w w4 : World) (p7 p8 : Nat) (a b c d m mm X Y M1 M2 a0 b0 a1 b1 J1 J2 P1 P2 P3 P4 : Int) {x0 x1 x3 x4 x5 x6 x13 x14 x15 x16 x17 x18 x19 x20 x21 x22 x23 x24 x25 x26 x27 x28 x29 x30 x31 x32 x33 x34 x35 x36 x37 x38 x39 x40 x41 x42 x43 x44 x45 x46 x47 x48 x49 x50 x51 x52 x53 x54 x55 x56 x57 x58 x59 x60 x61 x62 x63 x64 x65 x66 x67 x68 x69 x70 x71 x72 x73 x74 x75 x76 x77 x78 x79 x80 x81 x82 x83 x84 x85 x86 x87 x88 x89 x90 x91 x92 x93 x94 x95 x96 x97 x98 x99 x100 x101 x102 x103 x104 x105 x106 x107 x108 x109 x110 x111 x112 x113 x114 x115 x116 x117 x118 x119 x120 x121 x122 x123 : Value}
    (hQp : ∀ (c : List PanicEntry) (a : Act) (d : Option Tmp) (v : Value) (w : World), Q (.panic c) (a.put d v) w → Q (.panic c) a w)
    (HB4 : Hid (Below w.heap.size w w4)) (hc : w4.cell? ⟨p7, 0, none⟩ = some (.int .i64 a) ∧ w4.cell? ⟨p7, 1, none⟩ = some (.int .i64 b) ∧ w4.cell? ⟨p8, 0, none⟩ = some (.int .i64 c) ∧ w4.cell? ⟨p8, 1, none⟩ = some (.int .i64 d)) (HAdd' : Hid (∀ w, Calls Try.prog 10 #[.agg #[.int .i64 a, .int .i64 b], .agg #[.int .i64 c, .int .i64 d]] w fun r w' => r = .returned (.agg #[.int .i64 P1, .int .i64 P2]) ∧ Below w.heap.size w w')) (HSub' : Hid (∀ w, Calls Try.prog 11 #[.agg #[.int .i64 a, .int .i64 b], .agg #[.int .i64 c, .int .i64 d]] w fun r w' => r = .returned (.agg #[.int .i64 P3, .int .i64 P4]) ∧ Below w.heap.size w w')) (HMul' : Hid (∀ w, Calls Try.prog 12 #[.agg #[.int .i64 a, .int .i64 b], .int .i64 m] w fun r w' => r = .returned (.agg #[.int .i64 M1, .int .i64 M2]) ∧ Below w.heap.size w w')) (HCl' : Hid (∀ w, Calls Try.prog 13 #[.agg #[.int .i64 a, .int .i64 b], .int .i64 mm] w fun r w' => r = .returned (.agg #[.int .i64 a1, .int .i64 b1]) ∧ Below w.heap.size w w')) (HJ' : Hid (∀ w, Calls Try.prog 14 #[.agg #[.int .i64 a, .int .i64 b], .agg #[.int .i64 c, .int .i64 d]] w fun r w' => r = .returned (.agg #[.int .i64 J1, .int .i64 J2]) ∧ Below w.heap.size w w')) (HC1' : Hid (∀ w, Calls Try.prog 8 #[.int .i64 (a + c)] w fun r w' => r = .returned (.int .i64 P1) ∧ w' = w)) (hw1 : IntKind.i64.wrap (a + c) = a + c) (HC2' : Hid (∀ w, Calls Try.prog 8 #[.int .i64 (b + d)] w fun r w' => r = .returned (.int .i64 P2) ∧ w' = w)) (hw2 : IntKind.i64.wrap (b + d) = b + d) (HC3' : Hid (∀ w, Calls Try.prog 8 #[.int .i64 (a - d)] w fun r w' => r = .returned (.int .i64 P3) ∧ w' = w)) (hw3 : IntKind.i64.wrap (a - d) = a - d) (HC4' : Hid (∀ w, Calls Try.prog 8 #[.int .i64 (b - c)] w fun r w' => r = .returned (.int .i64 P4) ∧ w' = w)) (hw4 : IntKind.i64.wrap (b - c) = b - c) (hM1 : (if Y < X then Y else X) = M1) (hM2 : (if X < Y then Y else X) = M2) (ha0 : (if a < 0 then 0 else a) = a0) (hb0 : (if b < 0 then 0 else b) = b0) (ha1 : (if mm < a0 then mm else a0) = a1) (hb1 : (if mm < b0 then mm else b0) = b1) (hJ1 : (if c < a then c else a) = J1) (hJ2 : (if b < d then d else b) = J2)
    (hfin : ∀ {y0 y1 y2 y3 y4 y5 y7 y8 y9 y10 y11 y12 y13 y14 y15 y16 y17 y18 y19 y20 y21 y22 y23 y24 y25 y26 y27 y28 y29 y30 y31 y32 y33 y34 y35 y36 y37 y38 y39 y40 y41 y42 y43 y44 y45 y46 y47 y48 y49 y50 y51 y52 y53 y54 y55 y56 y57 y58 y59 y60 y61 y62 y63 y64 y65 y66 y67 y68 y69 y70 y71 y72 y73 y74 y75 y76 y77 y78 y79 y80 y81 y82 y83 y84 y85 y86 y87 y88 y89 y90 y91 y92 y93 y94 y95 y96 y97 y98 y99 y100 y101 y102 y103 y104 y105 y106 y107 y108 y109 y110 y111 y112 y113 y114 y115 y116 y117 y118 y119 y120 y121 y122 y123 : Value} (W : World), Below w.heap.size w W → (W.cell? ⟨p7, 0, none⟩ = some (.int .i64 a) ∧ W.cell? ⟨p7, 1, none⟩ = some (.int .i64 b) ∧ W.cell? ⟨p8, 0, none⟩ = some (.int .i64 c) ∧ W.cell? ⟨p8, 1, none⟩ = some (.int .i64 d)) → Q .normal ⟨#[y0, y1, y2, y3, y4, y5, .bool true, y7, y8, y9, y10, y11, y12, y13, y14, y15, y16, y17, y18, y19, y20, y21, y22, y23, y24, y25, y26, y27, y28, y29, y30, y31, y32, y33, y34, y35, y36, y37, y38, y39, y40, y41, y42, y43, y44, y45, y46, y47, y48, y49, y50, y51, y52, y53, y54, y55, y56, y57, y58, y59, y60, y61, y62, y63, y64, y65, y66, y67, y68, y69, y70, y71, y72, y73, y74, y75, y76, y77, y78, y79, y80, y81, y82, y83, y84, y85, y86, y87, y88, y89, y90, y91, y92, y93, y94, y95, y96, y97, y98, y99, y100, y101, y102, y103, y104, y105, y106, y107, y108, y109, y110, y111, y112, y113, y114, y115, y116, y117, y118, y119, y120, y121, y122, y123], []⟩ W) :
    (Code.region 9 least_reg9_ops true).wp Try.prog Q ⟨#[x0, x1, .int .i64 m, x3, x4, x5, x6, .pointer (some ⟨p7, 0, none⟩), .pointer (some ⟨p8, 0, none⟩), .int .i64 mm, .func (.func 8) #[] #[], .int .i64 X, .int .i64 Y, x13, x14, x15, x16, x17, x18, x19, x20, x21, x22, x23, x24, x25, x26, x27, x28, x29, x30, x31, x32, x33, x34, x35, x36, x37, x38, x39, x40, x41, x42, x43, x44, x45, x46, x47, x48, x49, x50, x51, x52, x53, x54, x55, x56, x57, x58, x59, x60, x61, x62, x63, x64, x65, x66, x67, x68, x69, x70, x71, x72, x73, x74, x75, x76, x77, x78, x79, x80, x81, x82, x83, x84, x85, x86, x87, x88, x89, x90, x91, x92, x93, x94, x95, x96, x97, x98, x99, x100, x101, x102, x103, x104, x105, x106, x107, x108, x109, x110, x111, x112, x113, x114, x115, x116, x117, x118, x119, x120, x121, x122, x123], []⟩ w4 := by
  refine wp_region_held_drew (S := fun W => W.cell? ⟨p7, 0, none⟩ = some (.int .i64 a) ∧ W.cell? ⟨p7, 1, none⟩ = some (.int .i64 b) ∧ W.cell? ⟨p8, 0, none⟩ = some (.int .i64 c) ∧ W.cell? ⟨p8, 1, none⟩ = some (.int .i64 d)) (by as_aux_lemma => kernel_rfl) (by exact hc) (fun hHeld => ?_)
  change wpAnyH _ _ _ _ _ 88 (Array.replicate 88 false) _ _
  refine wpAnyH_take (i := 0) (oi := { dst := some 37, op := Op.load 25 (Operand.tmp 7), type := 25, pos := "law.go:57", after := #[], guard := none }) (v := _) (by as_aux_lemma => kernel_rfl) (by as_aux_lemma => kernel_rfl) (by as_aux_lemma => kernel_rfl) (by as_aux_lemma => kernel_rfl) (by exact fun _ _ _ h => hQp _ _ _ _ _ h) (Or.inl ⟨by as_aux_lemma => kernel_rfl, by intro w' hSw; (try dsimp only at hSw); first | (go_simp; done) | (go_simp; with_reducible rfl)⟩) hHeld ?_
  simp only [Act.put, List.setIfInBounds_toArray, List.set_cons_zero, List.set_cons_succ]
  refine wpAnyH_take (i := 1) (oi := { dst := some 38, op := Op.load 25 (Operand.tmp 8), type := 25, pos := "law.go:57", after := #[], guard := none }) (v := _) (by as_aux_lemma => kernel_rfl) (by as_aux_lemma => kernel_rfl) (by as_aux_lemma => kernel_rfl) (by as_aux_lemma => kernel_rfl) (by exact fun _ _ _ h => hQp _ _ _ _ _ h) (Or.inl ⟨by as_aux_lemma => kernel_rfl, by intro w' hSw; (try dsimp only at hSw); first | (go_simp; done) | (go_simp; with_reducible rfl)⟩) hHeld ?_
  simp only [Act.put, List.setIfInBounds_toArray, List.set_cons_zero, List.set_cons_succ]
  refine wpAnyH_take (i := 3) (oi := { dst := some 40, op := Op.move (Operand.tmp 10), type := 27, pos := "law.go:57", after := #[], guard := none }) (v := _) (by as_aux_lemma => kernel_rfl) (by as_aux_lemma => kernel_rfl) (by as_aux_lemma => kernel_rfl) (by as_aux_lemma => kernel_rfl) (by exact fun _ _ _ h => hQp _ _ _ _ _ h) (Or.inl ⟨by as_aux_lemma => kernel_rfl, by intro w' hSw; (try dsimp only at hSw); first | (go_simp; done) | (go_simp; with_reducible rfl)⟩) hHeld ?_
  simp only [Act.put, List.setIfInBounds_toArray, List.set_cons_zero, List.set_cons_succ]
  refine wpAnyH_take (i := 4) (oi := { dst := some 41, op := Op.fieldAddr 25 (Operand.tmp 7) 0, type := 0, pos := "law.go:57", after := #[], guard := none }) (v := _) (by as_aux_lemma => kernel_rfl) (by as_aux_lemma => kernel_rfl) (by as_aux_lemma => kernel_rfl) (by as_aux_lemma => kernel_rfl) (by exact fun _ _ _ h => hQp _ _ _ _ _ h) (Or.inl ⟨by as_aux_lemma => kernel_rfl, by intro w' hSw; (try dsimp only at hSw); first | (go_simp; done) | (go_simp; with_reducible rfl)⟩) hHeld ?_
  simp only [Act.put, List.setIfInBounds_toArray, List.set_cons_zero, List.set_cons_succ]
  refine wpAnyH_take (i := 5) (oi := { dst := some 42, op := Op.load 3 (Operand.tmp 41), type := 3, pos := "law.go:57", after := #[{ on := 4, ground := Ground.data }], guard := none }) (v := _) (by as_aux_lemma => kernel_rfl) (by as_aux_lemma => kernel_rfl) (by as_aux_lemma => kernel_rfl) (by as_aux_lemma => kernel_rfl) (by exact fun _ _ _ h => hQp _ _ _ _ _ h) (Or.inl ⟨by as_aux_lemma => kernel_rfl, by intro w' hSw; (try dsimp only at hSw); first | (go_simp; done) | (go_simp; with_reducible rfl)⟩) hHeld ?_
  simp only [Act.put, List.setIfInBounds_toArray, List.set_cons_zero, List.set_cons_succ]
  refine wpAnyH_take (i := 6) (oi := { dst := some 43, op := Op.fieldAddr 25 (Operand.tmp 8) 0, type := 0, pos := "law.go:57", after := #[], guard := none }) (v := _) (by as_aux_lemma => kernel_rfl) (by as_aux_lemma => kernel_rfl) (by as_aux_lemma => kernel_rfl) (by as_aux_lemma => kernel_rfl) (by exact fun _ _ _ h => hQp _ _ _ _ _ h) (Or.inl ⟨by as_aux_lemma => kernel_rfl, by intro w' hSw; (try dsimp only at hSw); first | (go_simp; done) | (go_simp; with_reducible rfl)⟩) hHeld ?_
  simp only [Act.put, List.setIfInBounds_toArray, List.set_cons_zero, List.set_cons_succ]
  refine wpAnyH_take (i := 7) (oi := { dst := some 44, op := Op.load 3 (Operand.tmp 43), type := 3, pos := "law.go:57", after := #[{ on := 6, ground := Ground.data }], guard := none }) (v := _) (by as_aux_lemma => kernel_rfl) (by as_aux_lemma => kernel_rfl) (by as_aux_lemma => kernel_rfl) (by as_aux_lemma => kernel_rfl) (by exact fun _ _ _ h => hQp _ _ _ _ _ h) (Or.inl ⟨by as_aux_lemma => kernel_rfl, by intro w' hSw; (try dsimp only at hSw); first | (go_simp; done) | (go_simp; with_reducible rfl)⟩) hHeld ?_
  simp only [Act.put, List.setIfInBounds_toArray, List.set_cons_zero, List.set_cons_succ]
  refine wpAnyH_take (i := 8) (oi := { dst := some 45, op := Op.binOp BinOp.add 3 (Operand.tmp 42) (Operand.tmp 44) 3, type := 3, pos := "law.go:57", after := #[{ on := 5, ground := Ground.data }, { on := 7, ground := Ground.data }], guard := none }) (v := _) (by as_aux_lemma => kernel_rfl) (by as_aux_lemma => kernel_rfl) (by as_aux_lemma => kernel_rfl) (by as_aux_lemma => kernel_rfl) (by exact fun _ _ _ h => hQp _ _ _ _ _ h) (Or.inl ⟨by as_aux_lemma => kernel_rfl, by intro w' hSw; (try dsimp only at hSw); first | (go_simp; done) | (go_simp; with_reducible rfl)⟩) hHeld ?_
  simp only [Act.put, List.setIfInBounds_toArray, List.set_cons_zero, List.set_cons_succ]
  refine wpAnyH_take (i := 10) (oi := { dst := some 47, op := Op.move (Operand.tmp 10), type := 27, pos := "law.go:57", after := #[], guard := none }) (v := _) (by as_aux_lemma => kernel_rfl) (by as_aux_lemma => kernel_rfl) (by as_aux_lemma => kernel_rfl) (by as_aux_lemma => kernel_rfl) (by exact fun _ _ _ h => hQp _ _ _ _ _ h) (Or.inl ⟨by as_aux_lemma => kernel_rfl, by intro w' hSw; (try dsimp only at hSw); first | (go_simp; done) | (go_simp; with_reducible rfl)⟩) hHeld ?_
  simp only [Act.put, List.setIfInBounds_toArray, List.set_cons_zero, List.set_cons_succ]
  refine wpAnyH_take (i := 11) (oi := { dst := some 48, op := Op.fieldAddr 25 (Operand.tmp 7) 1, type := 0, pos := "law.go:57", after := #[], guard := none }) (v := _) (by as_aux_lemma => kernel_rfl) (by as_aux_lemma => kernel_rfl) (by as_aux_lemma => kernel_rfl) (by as_aux_lemma => kernel_rfl) (by exact fun _ _ _ h => hQp _ _ _ _ _ h) (Or.inl ⟨by as_aux_lemma => kernel_rfl, by intro w' hSw; (try dsimp only at hSw); first | (go_simp; done) | (go_simp; with_reducible rfl)⟩) hHeld ?_
  simp only [Act.put, List.setIfInBounds_toArray, List.set_cons_zero, List.set_cons_succ]
  refine wpAnyH_take (i := 12) (oi := { dst := some 49, op := Op.load 3 (Operand.tmp 48), type := 3, pos := "law.go:57", after := #[{ on := 11, ground := Ground.data }], guard := none }) (v := _) (by as_aux_lemma => kernel_rfl) (by as_aux_lemma => kernel_rfl) (by as_aux_lemma => kernel_rfl) (by as_aux_lemma => kernel_rfl) (by exact fun _ _ _ h => hQp _ _ _ _ _ h) (Or.inl ⟨by as_aux_lemma => kernel_rfl, by intro w' hSw; (try dsimp only at hSw); first | (go_simp; done) | (go_simp; with_reducible rfl)⟩) hHeld ?_
  simp only [Act.put, List.setIfInBounds_toArray, List.set_cons_zero, List.set_cons_succ]
  refine wpAnyH_take (i := 13) (oi := { dst := some 50, op := Op.fieldAddr 25 (Operand.tmp 8) 1, type := 0, pos := "law.go:57", after := #[], guard := none }) (v := _) (by as_aux_lemma => kernel_rfl) (by as_aux_lemma => kernel_rfl) (by as_aux_lemma => kernel_rfl) (by as_aux_lemma => kernel_rfl) (by exact fun _ _ _ h => hQp _ _ _ _ _ h) (Or.inl ⟨by as_aux_lemma => kernel_rfl, by intro w' hSw; (try dsimp only at hSw); first | (go_simp; done) | (go_simp; with_reducible rfl)⟩) hHeld ?_
  simp only [Act.put, List.setIfInBounds_toArray, List.set_cons_zero, List.set_cons_succ]
  refine wpAnyH_take (i := 14) (oi := { dst := some 51, op := Op.load 3 (Operand.tmp 50), type := 3, pos := "law.go:57", after := #[{ on := 13, ground := Ground.data }], guard := none }) (v := _) (by as_aux_lemma => kernel_rfl) (by as_aux_lemma => kernel_rfl) (by as_aux_lemma => kernel_rfl) (by as_aux_lemma => kernel_rfl) (by exact fun _ _ _ h => hQp _ _ _ _ _ h) (Or.inl ⟨by as_aux_lemma => kernel_rfl, by intro w' hSw; (try dsimp only at hSw); first | (go_simp; done) | (go_simp; with_reducible rfl)⟩) hHeld ?_
  simp only [Act.put, List.setIfInBounds_toArray, List.set_cons_zero, List.set_cons_succ]
  refine wpAnyH_take (i := 15) (oi := { dst := some 52, op := Op.binOp BinOp.add 3 (Operand.tmp 49) (Operand.tmp 51) 3, type := 3, pos := "law.go:57", after := #[{ on := 12, ground := Ground.data }, { on := 14, ground := Ground.data }], guard := none }) (v := _) (by as_aux_lemma => kernel_rfl) (by as_aux_lemma => kernel_rfl) (by as_aux_lemma => kernel_rfl) (by as_aux_lemma => kernel_rfl) (by exact fun _ _ _ h => hQp _ _ _ _ _ h) (Or.inl ⟨by as_aux_lemma => kernel_rfl, by intro w' hSw; (try dsimp only at hSw); first | (go_simp; done) | (go_simp; with_reducible rfl)⟩) hHeld ?_
  simp only [Act.put, List.setIfInBounds_toArray, List.set_cons_zero, List.set_cons_succ]
  refine wpAnyH_ready (rs := [2]) (by as_aux_lemma => kernel_rfl) (by simp) ?_
  refine AllReadyH.cons (o := { dst := some 39, op := Op.call { callee := Callee.value (Operand.func 10), args := #[Operand.tmp 37, Operand.tmp 38], argTypes := #[25, 25] }, type := 25, pos := "law.go:57", after := #[{ on := 0, ground := Ground.data }, { on := 1, ground := Ground.data }], guard := none }) (by as_aux_lemma => kernel_rfl) (fun K hK => ?_) AllReadyH.nil
  refine ite_want (by as_aux_lemma => kernel_rfl) ?_
  go_simp
  go_wp2_with fail
  refine (HAdd'.out _).mono ?_
  rintro r w5 ⟨rfl, hb5⟩
  have HB5 : Hid (Below w.heap.size w w5) := by first | exact HB4.out.trans (hb5.mono HB4.out.size) | exact HB4.out.drew.trans (hb5.mono HB4.out.drew.size)
  refine hK.out _ _ ⟨(hb5.cell (p := ⟨p7, 0, none⟩) (lt_of_cell hHeld.1)).trans hHeld.1, (hb5.cell (p := ⟨p7, 1, none⟩) (lt_of_cell hHeld.2.1)).trans hHeld.2.1, (hb5.cell (p := ⟨p8, 0, none⟩) (lt_of_cell hHeld.2.2.1)).trans hHeld.2.2.1, (hb5.cell (p := ⟨p8, 1, none⟩) (lt_of_cell hHeld.2.2.2)).trans hHeld.2.2.2⟩ (fun hHeld => ?_)
  clear hK K hb5
  as_aux_lemma =>
    refine wpAnyH_ready (rs := [9]) (by as_aux_lemma => kernel_rfl) (by simp) ?_
    refine AllReadyH.cons (o := { dst := some 46, op := Op.call { callee := Callee.value (Operand.tmp 40), args := #[Operand.tmp 45], argTypes := #[3] }, type := 3, pos := "law.go:57", after := #[{ on := 3, ground := Ground.data }, { on := 8, ground := Ground.data }, { on := 2, ground := Ground.chain }], guard := none }) (by as_aux_lemma => kernel_rfl) (fun K hK => ?_) AllReadyH.nil
    refine ite_want (by as_aux_lemma => kernel_rfl) ?_
    go_simp
    go_wp2_with fail
    refine (HC1'.out _).mono ?_
    rintro r w6 ⟨rfl, hw6⟩
    have HB6 : Hid (Below w.heap.size w w6) := by rw [hw6]; first | exact HB5.out.drew | exact HB5.out
    refine hK.out _ _ (by rw [hw6]; exact hHeld) (fun hHeld => ?_)
    clear hK K hw6
    as_aux_lemma =>
      refine wpAnyH_ready (rs := [16]) (by as_aux_lemma => kernel_rfl) (by simp) ?_
      refine AllReadyH.cons (o := { dst := some 53, op := Op.call { callee := Callee.value (Operand.tmp 47), args := #[Operand.tmp 52], argTypes := #[3] }, type := 3, pos := "law.go:57", after := #[{ on := 10, ground := Ground.data }, { on := 15, ground := Ground.data }, { on := 9, ground := Ground.chain }], guard := none }) (by as_aux_lemma => kernel_rfl) (fun K hK => ?_) AllReadyH.nil
      refine ite_want (by as_aux_lemma => kernel_rfl) ?_
      go_simp
      go_wp2_with fail
      refine (HC2'.out _).mono ?_
      rintro r w7 ⟨rfl, hw7⟩
      have HB7 : Hid (Below w.heap.size w w7) := by rw [hw7]; first | exact HB6.out.drew | exact HB6.out
      refine hK.out _ _ (by rw [hw7]; exact hHeld) (fun hHeld => ?_)
      clear hK K hw7
      as_aux_lemma =>
        refine wpAnyH_take (i := 17) (oi := { dst := some 54, op := Op.build 25 #[(0, Operand.tmp 46), (1, Operand.tmp 53)], type := 25, pos := "law.go:57", after := #[{ on := 9, ground := Ground.data }, { on := 16, ground := Ground.data }], guard := none }) (v := _) (by as_aux_lemma => kernel_rfl) (by as_aux_lemma => kernel_rfl) (by as_aux_lemma => kernel_rfl) (by as_aux_lemma => kernel_rfl) (by exact fun _ _ _ h => hQp _ _ _ _ _ h) (Or.inl ⟨by as_aux_lemma => kernel_rfl, by intro w' hSw; (try dsimp only at hSw); first | (go_simp; done) | (go_simp; with_reducible rfl)⟩) hHeld ?_
        simp only [Act.put, List.setIfInBounds_toArray, List.set_cons_zero, List.set_cons_succ]
        refine wpAnyH_take (i := 18) (oi := { dst := some 55, op := Op.binOp BinOp.eql 25 (Operand.tmp 39) (Operand.tmp 54) 25, type := 4, pos := "law.go:57", after := #[{ on := 2, ground := Ground.data }, { on := 17, ground := Ground.data }], guard := none }) (v := _) (by as_aux_lemma => kernel_rfl) (by as_aux_lemma => kernel_rfl) (by as_aux_lemma => kernel_rfl) (by as_aux_lemma => kernel_rfl) (by exact fun _ _ _ h => hQp _ _ _ _ _ h) (Or.inl ⟨by as_aux_lemma => kernel_rfl, by intro w' hSw; (try dsimp only at hSw); first | (go_simp; done) | (go_simp; with_reducible rfl)⟩) hHeld ?_
        simp only [Act.put, List.setIfInBounds_toArray, List.set_cons_zero, List.set_cons_succ]
        refine wpAnyH_take (i := 19) (oi := { dst := some 56, op := Op.move (Operand.tmp 55), type := 4, pos := "law.go:57", after := #[{ on := 18, ground := Ground.data }, { on := 16, ground := Ground.chain }], guard := none }) (v := _) (by as_aux_lemma => kernel_rfl) (by as_aux_lemma => kernel_rfl) (by as_aux_lemma => kernel_rfl) (by as_aux_lemma => kernel_rfl) (by exact fun _ _ _ h => hQp _ _ _ _ _ h) (Or.inl ⟨by as_aux_lemma => kernel_rfl, by intro w' hSw; (try dsimp only at hSw); first | (go_simp; done) | (go_simp; with_reducible rfl)⟩) hHeld ?_
        simp only [Act.put, List.setIfInBounds_toArray, List.set_cons_zero, List.set_cons_succ]
        refine wpAnyH_take (i := 20) (oi := { dst := some 57, op := Op.load 25 (Operand.tmp 7), type := 25, pos := "law.go:57", after := #[{ on := 19, ground := Ground.guard }], guard := some (19, true) }) (v := _) (by as_aux_lemma => kernel_rfl) (by as_aux_lemma => kernel_rfl) (by as_aux_lemma => kernel_rfl) (by as_aux_lemma => kernel_rfl) (by exact fun _ _ _ h => hQp _ _ _ _ _ h) (Or.inl ⟨by as_aux_lemma => kernel_rfl, by intro w' hSw; (try dsimp only at hSw); first | (go_simp; done) | (go_simp; with_reducible rfl)⟩) hHeld ?_
        simp only [Act.put, List.setIfInBounds_toArray, List.set_cons_zero, List.set_cons_succ]
        refine wpAnyH_take (i := 21) (oi := { dst := some 58, op := Op.load 25 (Operand.tmp 8), type := 25, pos := "law.go:57", after := #[{ on := 19, ground := Ground.guard }], guard := some (19, true) }) (v := _) (by as_aux_lemma => kernel_rfl) (by as_aux_lemma => kernel_rfl) (by as_aux_lemma => kernel_rfl) (by as_aux_lemma => kernel_rfl) (by exact fun _ _ _ h => hQp _ _ _ _ _ h) (Or.inl ⟨by as_aux_lemma => kernel_rfl, by intro w' hSw; (try dsimp only at hSw); first | (go_simp; done) | (go_simp; with_reducible rfl)⟩) hHeld ?_
        simp only [Act.put, List.setIfInBounds_toArray, List.set_cons_zero, List.set_cons_succ]
        refine wpAnyH_take (i := 23) (oi := { dst := some 60, op := Op.move (Operand.tmp 10), type := 27, pos := "law.go:57", after := #[{ on := 19, ground := Ground.guard }], guard := some (19, true) }) (v := _) (by as_aux_lemma => kernel_rfl) (by as_aux_lemma => kernel_rfl) (by as_aux_lemma => kernel_rfl) (by as_aux_lemma => kernel_rfl) (by exact fun _ _ _ h => hQp _ _ _ _ _ h) (Or.inl ⟨by as_aux_lemma => kernel_rfl, by intro w' hSw; (try dsimp only at hSw); first | (go_simp; done) | (go_simp; with_reducible rfl)⟩) hHeld ?_
        simp only [Act.put, List.setIfInBounds_toArray, List.set_cons_zero, List.set_cons_succ]
        refine wpAnyH_take (i := 24) (oi := { dst := some 61, op := Op.fieldAddr 25 (Operand.tmp 7) 0, type := 0, pos := "law.go:57", after := #[{ on := 19, ground := Ground.guard }], guard := some (19, true) }) (v := _) (by as_aux_lemma => kernel_rfl) (by as_aux_lemma => kernel_rfl) (by as_aux_lemma => kernel_rfl) (by as_aux_lemma => kernel_rfl) (by exact fun _ _ _ h => hQp _ _ _ _ _ h) (Or.inl ⟨by as_aux_lemma => kernel_rfl, by intro w' hSw; (try dsimp only at hSw); first | (go_simp; done) | (go_simp; with_reducible rfl)⟩) hHeld ?_
        simp only [Act.put, List.setIfInBounds_toArray, List.set_cons_zero, List.set_cons_succ]
        refine wpAnyH_take (i := 25) (oi := { dst := some 62, op := Op.load 3 (Operand.tmp 61), type := 3, pos := "law.go:57", after := #[{ on := 24, ground := Ground.data }, { on := 19, ground := Ground.guard }], guard := some (19, true) }) (v := _) (by as_aux_lemma => kernel_rfl) (by as_aux_lemma => kernel_rfl) (by as_aux_lemma => kernel_rfl) (by as_aux_lemma => kernel_rfl) (by exact fun _ _ _ h => hQp _ _ _ _ _ h) (Or.inl ⟨by as_aux_lemma => kernel_rfl, by intro w' hSw; (try dsimp only at hSw); first | (go_simp; done) | (go_simp; with_reducible rfl)⟩) hHeld ?_
        simp only [Act.put, List.setIfInBounds_toArray, List.set_cons_zero, List.set_cons_succ]
        refine wpAnyH_take (i := 26) (oi := { dst := some 63, op := Op.fieldAddr 25 (Operand.tmp 8) 1, type := 0, pos := "law.go:57", after := #[{ on := 19, ground := Ground.guard }], guard := some (19, true) }) (v := _) (by as_aux_lemma => kernel_rfl) (by as_aux_lemma => kernel_rfl) (by as_aux_lemma => kernel_rfl) (by as_aux_lemma => kernel_rfl) (by exact fun _ _ _ h => hQp _ _ _ _ _ h) (Or.inl ⟨by as_aux_lemma => kernel_rfl, by intro w' hSw; (try dsimp only at hSw); first | (go_simp; done) | (go_simp; with_reducible rfl)⟩) hHeld ?_
        simp only [Act.put, List.setIfInBounds_toArray, List.set_cons_zero, List.set_cons_succ]
        refine wpAnyH_take (i := 27) (oi := { dst := some 64, op := Op.load 3 (Operand.tmp 63), type := 3, pos := "law.go:57", after := #[{ on := 26, ground := Ground.data }, { on := 19, ground := Ground.guard }], guard := some (19, true) }) (v := _) (by as_aux_lemma => kernel_rfl) (by as_aux_lemma => kernel_rfl) (by as_aux_lemma => kernel_rfl) (by as_aux_lemma => kernel_rfl) (by exact fun _ _ _ h => hQp _ _ _ _ _ h) (Or.inl ⟨by as_aux_lemma => kernel_rfl, by intro w' hSw; (try dsimp only at hSw); first | (go_simp; done) | (go_simp; with_reducible rfl)⟩) hHeld ?_
        simp only [Act.put, List.setIfInBounds_toArray, List.set_cons_zero, List.set_cons_succ]
        refine wpAnyH_take (i := 28) (oi := { dst := some 65, op := Op.binOp BinOp.sub 3 (Operand.tmp 62) (Operand.tmp 64) 3, type := 3, pos := "law.go:57", after := #[{ on := 25, ground := Ground.data }, { on := 27, ground := Ground.data }, { on := 19, ground := Ground.guard }], guard := some (19, true) }) (v := _) (by as_aux_lemma => kernel_rfl) (by as_aux_lemma => kernel_rfl) (by as_aux_lemma => kernel_rfl) (by as_aux_lemma => kernel_rfl) (by exact fun _ _ _ h => hQp _ _ _ _ _ h) (Or.inl ⟨by as_aux_lemma => kernel_rfl, by intro w' hSw; (try dsimp only at hSw); first | (go_simp; done) | (go_simp; with_reducible rfl)⟩) hHeld ?_
        simp only [Act.put, List.setIfInBounds_toArray, List.set_cons_zero, List.set_cons_succ]
        refine wpAnyH_take (i := 30) (oi := { dst := some 67, op := Op.move (Operand.tmp 10), type := 27, pos := "law.go:57", after := #[{ on := 19, ground := Ground.guard }], guard := some (19, true) }) (v := _) (by as_aux_lemma => kernel_rfl) (by as_aux_lemma => kernel_rfl) (by as_aux_lemma => kernel_rfl) (by as_aux_lemma => kernel_rfl) (by exact fun _ _ _ h => hQp _ _ _ _ _ h) (Or.inl ⟨by as_aux_lemma => kernel_rfl, by intro w' hSw; (try dsimp only at hSw); first | (go_simp; done) | (go_simp; with_reducible rfl)⟩) hHeld ?_
        simp only [Act.put, List.setIfInBounds_toArray, List.set_cons_zero, List.set_cons_succ]
        refine wpAnyH_take (i := 31) (oi := { dst := some 68, op := Op.fieldAddr 25 (Operand.tmp 7) 1, type := 0, pos := "law.go:57", after := #[{ on := 19, ground := Ground.guard }], guard := some (19, true) }) (v := _) (by as_aux_lemma => kernel_rfl) (by as_aux_lemma => kernel_rfl) (by as_aux_lemma => kernel_rfl) (by as_aux_lemma => kernel_rfl) (by exact fun _ _ _ h => hQp _ _ _ _ _ h) (Or.inl ⟨by as_aux_lemma => kernel_rfl, by intro w' hSw; (try dsimp only at hSw); first | (go_simp; done) | (go_simp; with_reducible rfl)⟩) hHeld ?_
        simp only [Act.put, List.setIfInBounds_toArray, List.set_cons_zero, List.set_cons_succ]
        refine wpAnyH_take (i := 32) (oi := { dst := some 69, op := Op.load 3 (Operand.tmp 68), type := 3, pos := "law.go:57", after := #[{ on := 31, ground := Ground.data }, { on := 19, ground := Ground.guard }], guard := some (19, true) }) (v := _) (by as_aux_lemma => kernel_rfl) (by as_aux_lemma => kernel_rfl) (by as_aux_lemma => kernel_rfl) (by as_aux_lemma => kernel_rfl) (by exact fun _ _ _ h => hQp _ _ _ _ _ h) (Or.inl ⟨by as_aux_lemma => kernel_rfl, by intro w' hSw; (try dsimp only at hSw); first | (go_simp; done) | (go_simp; with_reducible rfl)⟩) hHeld ?_
        simp only [Act.put, List.setIfInBounds_toArray, List.set_cons_zero, List.set_cons_succ]
        refine wpAnyH_take (i := 33) (oi := { dst := some 70, op := Op.fieldAddr 25 (Operand.tmp 8) 0, type := 0, pos := "law.go:57", after := #[{ on := 19, ground := Ground.guard }], guard := some (19, true) }) (v := _) (by as_aux_lemma => kernel_rfl) (by as_aux_lemma => kernel_rfl) (by as_aux_lemma => kernel_rfl) (by as_aux_lemma => kernel_rfl) (by exact fun _ _ _ h => hQp _ _ _ _ _ h) (Or.inl ⟨by as_aux_lemma => kernel_rfl, by intro w' hSw; (try dsimp only at hSw); first | (go_simp; done) | (go_simp; with_reducible rfl)⟩) hHeld ?_
        simp only [Act.put, List.setIfInBounds_toArray, List.set_cons_zero, List.set_cons_succ]
        refine wpAnyH_take (i := 34) (oi := { dst := some 71, op := Op.load 3 (Operand.tmp 70), type := 3, pos := "law.go:57", after := #[{ on := 33, ground := Ground.data }, { on := 19, ground := Ground.guard }], guard := some (19, true) }) (v := _) (by as_aux_lemma => kernel_rfl) (by as_aux_lemma => kernel_rfl) (by as_aux_lemma => kernel_rfl) (by as_aux_lemma => kernel_rfl) (by exact fun _ _ _ h => hQp _ _ _ _ _ h) (Or.inl ⟨by as_aux_lemma => kernel_rfl, by intro w' hSw; (try dsimp only at hSw); first | (go_simp; done) | (go_simp; with_reducible rfl)⟩) hHeld ?_
        simp only [Act.put, List.setIfInBounds_toArray, List.set_cons_zero, List.set_cons_succ]
        refine wpAnyH_take (i := 35) (oi := { dst := some 72, op := Op.binOp BinOp.sub 3 (Operand.tmp 69) (Operand.tmp 71) 3, type := 3, pos := "law.go:57", after := #[{ on := 32, ground := Ground.data }, { on := 34, ground := Ground.data }, { on := 19, ground := Ground.guard }], guard := some (19, true) }) (v := _) (by as_aux_lemma => kernel_rfl) (by as_aux_lemma => kernel_rfl) (by as_aux_lemma => kernel_rfl) (by as_aux_lemma => kernel_rfl) (by exact fun _ _ _ h => hQp _ _ _ _ _ h) (Or.inl ⟨by as_aux_lemma => kernel_rfl, by intro w' hSw; (try dsimp only at hSw); first | (go_simp; done) | (go_simp; with_reducible rfl)⟩) hHeld ?_
        simp only [Act.put, List.setIfInBounds_toArray, List.set_cons_zero, List.set_cons_succ]
        refine wpAnyH_ready (rs := [22]) (by as_aux_lemma => kernel_rfl) (by simp) ?_
        refine AllReadyH.cons (o := { dst := some 59, op := Op.call { callee := Callee.value (Operand.func 11), args := #[Operand.tmp 57, Operand.tmp 58], argTypes := #[25, 25] }, type := 25, pos := "law.go:57", after := #[{ on := 20, ground := Ground.data }, { on := 21, ground := Ground.data }, { on := 19, ground := Ground.chain }, { on := 19, ground := Ground.guard }], guard := some (19, true) }) (by as_aux_lemma => kernel_rfl) (fun K hK => ?_) AllReadyH.nil
        refine ite_want (by as_aux_lemma => kernel_rfl) ?_
        go_simp
        go_wp2_with fail
        refine (HSub'.out _).mono ?_
        rintro r w8 ⟨rfl, hb8⟩
        have HB8 : Hid (Below w.heap.size w w8) := by first | exact HB7.out.trans (hb8.mono HB7.out.size) | exact HB7.out.drew.trans (hb8.mono HB7.out.drew.size)
        refine hK.out _ _ ⟨(hb8.cell (p := ⟨p7, 0, none⟩) (lt_of_cell hHeld.1)).trans hHeld.1, (hb8.cell (p := ⟨p7, 1, none⟩) (lt_of_cell hHeld.2.1)).trans hHeld.2.1, (hb8.cell (p := ⟨p8, 0, none⟩) (lt_of_cell hHeld.2.2.1)).trans hHeld.2.2.1, (hb8.cell (p := ⟨p8, 1, none⟩) (lt_of_cell hHeld.2.2.2)).trans hHeld.2.2.2⟩ (fun hHeld => ?_)
        clear hK K hb8
        as_aux_lemma =>
          refine wpAnyH_ready (rs := [29]) (by as_aux_lemma => kernel_rfl) (by simp) ?_
          refine AllReadyH.cons (o := { dst := some 66, op := Op.call { callee := Callee.value (Operand.tmp 60), args := #[Operand.tmp 65], argTypes := #[3] }, type := 3, pos := "law.go:57", after := #[{ on := 23, ground := Ground.data }, { on := 28, ground := Ground.data }, { on := 22, ground := Ground.chain }, { on := 19, ground := Ground.guard }], guard := some (19, true) }) (by as_aux_lemma => kernel_rfl) (fun K hK => ?_) AllReadyH.nil
          refine ite_want (by as_aux_lemma => kernel_rfl) ?_
          go_simp
          go_wp2_with fail
          refine (HC3'.out _).mono ?_
          rintro r w9 ⟨rfl, hw9⟩
          have HB9 : Hid (Below w.heap.size w w9) := by rw [hw9]; first | exact HB8.out.drew | exact HB8.out
          refine hK.out _ _ (by rw [hw9]; exact hHeld) (fun hHeld => ?_)
          clear hK K hw9
          as_aux_lemma =>
            refine wpAnyH_ready (rs := [36]) (by as_aux_lemma => kernel_rfl) (by simp) ?_
            refine AllReadyH.cons (o := { dst := some 73, op := Op.call { callee := Callee.value (Operand.tmp 67), args := #[Operand.tmp 72], argTypes := #[3] }, type := 3, pos := "law.go:57", after := #[{ on := 30, ground := Ground.data }, { on := 35, ground := Ground.data }, { on := 29, ground := Ground.chain }, { on := 19, ground := Ground.guard }], guard := some (19, true) }) (by as_aux_lemma => kernel_rfl) (fun K hK => ?_) AllReadyH.nil
            refine ite_want (by as_aux_lemma => kernel_rfl) ?_
            go_simp
            go_wp2_with fail
            refine (HC4'.out _).mono ?_
            rintro r w10 ⟨rfl, hw10⟩
            have HB10 : Hid (Below w.heap.size w w10) := by rw [hw10]; first | exact HB9.out.drew | exact HB9.out
            refine hK.out _ _ (by rw [hw10]; exact hHeld) (fun hHeld => ?_)
            clear hK K hw10
            as_aux_lemma =>
              refine wpAnyH_take (i := 37) (oi := { dst := some 74, op := Op.build 25 #[(0, Operand.tmp 66), (1, Operand.tmp 73)], type := 25, pos := "law.go:57", after := #[{ on := 29, ground := Ground.data }, { on := 36, ground := Ground.data }, { on := 19, ground := Ground.guard }], guard := some (19, true) }) (v := _) (by as_aux_lemma => kernel_rfl) (by as_aux_lemma => kernel_rfl) (by as_aux_lemma => kernel_rfl) (by as_aux_lemma => kernel_rfl) (by exact fun _ _ _ h => hQp _ _ _ _ _ h) (Or.inl ⟨by as_aux_lemma => kernel_rfl, by intro w' hSw; (try dsimp only at hSw); first | (go_simp; done) | (go_simp; with_reducible rfl)⟩) hHeld ?_
              simp only [Act.put, List.setIfInBounds_toArray, List.set_cons_zero, List.set_cons_succ]
              refine wpAnyH_take (i := 38) (oi := { dst := some 75, op := Op.binOp BinOp.eql 25 (Operand.tmp 59) (Operand.tmp 74) 25, type := 4, pos := "law.go:57", after := #[{ on := 22, ground := Ground.data }, { on := 37, ground := Ground.data }, { on := 19, ground := Ground.guard }], guard := some (19, true) }) (v := _) (by as_aux_lemma => kernel_rfl) (by as_aux_lemma => kernel_rfl) (by as_aux_lemma => kernel_rfl) (by as_aux_lemma => kernel_rfl) (by exact fun _ _ _ h => hQp _ _ _ _ _ h) (Or.inl ⟨by as_aux_lemma => kernel_rfl, by intro w' hSw; (try dsimp only at hSw); first | (go_simp; done) | (go_simp; with_reducible rfl)⟩) hHeld ?_
              simp only [Act.put, List.setIfInBounds_toArray, List.set_cons_zero, List.set_cons_succ]
              refine wpAnyH_take (i := 39) (oi := { dst := some 76, op := Op.pick (Operand.tmp 56) (Operand.tmp 75) (Operand.const (Value.bool false)), type := 4, pos := "law.go:57", after := #[{ on := 19, ground := Ground.data }, { on := 38, ground := Ground.data }], guard := none }) (v := _) (by as_aux_lemma => kernel_rfl) (by as_aux_lemma => kernel_rfl) (by as_aux_lemma => kernel_rfl) (by as_aux_lemma => kernel_rfl) (by exact fun _ _ _ h => hQp _ _ _ _ _ h) (Or.inl ⟨by as_aux_lemma => kernel_rfl, by intro w' hSw; (try dsimp only at hSw); first | (go_simp; done) | (go_simp; with_reducible rfl)⟩) hHeld ?_
              simp only [Act.put, List.setIfInBounds_toArray, List.set_cons_zero, List.set_cons_succ]
              refine wpAnyH_take (i := 40) (oi := { dst := some 77, op := Op.move (Operand.tmp 76), type := 4, pos := "law.go:57", after := #[{ on := 39, ground := Ground.data }, { on := 36, ground := Ground.chain }], guard := none }) (v := _) (by as_aux_lemma => kernel_rfl) (by as_aux_lemma => kernel_rfl) (by as_aux_lemma => kernel_rfl) (by as_aux_lemma => kernel_rfl) (by exact fun _ _ _ h => hQp _ _ _ _ _ h) (Or.inl ⟨by as_aux_lemma => kernel_rfl, by intro w' hSw; (try dsimp only at hSw); first | (go_simp; done) | (go_simp; with_reducible rfl)⟩) hHeld ?_
              simp only [Act.put, List.setIfInBounds_toArray, List.set_cons_zero, List.set_cons_succ]
              refine wpAnyH_take (i := 41) (oi := { dst := some 78, op := Op.load 25 (Operand.tmp 7), type := 25, pos := "law.go:57", after := #[{ on := 40, ground := Ground.guard }], guard := some (40, true) }) (v := _) (by as_aux_lemma => kernel_rfl) (by as_aux_lemma => kernel_rfl) (by as_aux_lemma => kernel_rfl) (by as_aux_lemma => kernel_rfl) (by exact fun _ _ _ h => hQp _ _ _ _ _ h) (Or.inl ⟨by as_aux_lemma => kernel_rfl, by intro w' hSw; (try dsimp only at hSw); first | (go_simp; done) | (go_simp; with_reducible rfl)⟩) hHeld ?_
              simp only [Act.put, List.setIfInBounds_toArray, List.set_cons_zero, List.set_cons_succ]
              refine wpAnyH_take (i := 42) (oi := { dst := some 79, op := Op.move (Operand.tmp 2), type := 3, pos := "law.go:57", after := #[{ on := 40, ground := Ground.guard }], guard := some (40, true) }) (v := _) (by as_aux_lemma => kernel_rfl) (by as_aux_lemma => kernel_rfl) (by as_aux_lemma => kernel_rfl) (by as_aux_lemma => kernel_rfl) (by exact fun _ _ _ h => hQp _ _ _ _ _ h) (Or.inl ⟨by as_aux_lemma => kernel_rfl, by intro w' hSw; (try dsimp only at hSw); first | (go_simp; done) | (go_simp; with_reducible rfl)⟩) hHeld ?_
              simp only [Act.put, List.setIfInBounds_toArray, List.set_cons_zero, List.set_cons_succ]
              refine wpAnyH_take (i := 44) (oi := { dst := some 81, op := Op.move (Operand.tmp 11), type := 3, pos := "law.go:57", after := #[{ on := 40, ground := Ground.guard }], guard := some (40, true) }) (v := _) (by as_aux_lemma => kernel_rfl) (by as_aux_lemma => kernel_rfl) (by as_aux_lemma => kernel_rfl) (by as_aux_lemma => kernel_rfl) (by exact fun _ _ _ h => hQp _ _ _ _ _ h) (Or.inl ⟨by as_aux_lemma => kernel_rfl, by intro w' hSw; (try dsimp only at hSw); first | (go_simp; done) | (go_simp; with_reducible rfl)⟩) hHeld ?_
              simp only [Act.put, List.setIfInBounds_toArray, List.set_cons_zero, List.set_cons_succ]
              refine wpAnyH_take (i := 45) (oi := { dst := some 82, op := Op.move (Operand.tmp 12), type := 3, pos := "law.go:57", after := #[{ on := 40, ground := Ground.guard }], guard := some (40, true) }) (v := _) (by as_aux_lemma => kernel_rfl) (by as_aux_lemma => kernel_rfl) (by as_aux_lemma => kernel_rfl) (by as_aux_lemma => kernel_rfl) (by exact fun _ _ _ h => hQp _ _ _ _ _ h) (Or.inl ⟨by as_aux_lemma => kernel_rfl, by intro w' hSw; (try dsimp only at hSw); first | (go_simp; done) | (go_simp; with_reducible rfl)⟩) hHeld ?_
              simp only [Act.put, List.setIfInBounds_toArray, List.set_cons_zero, List.set_cons_succ]
              refine wpAnyH_take (i := 46) (oi := { dst := some 83, op := Op.call { callee := Callee.builtin Builtin.min, args := #[Operand.tmp 81, Operand.tmp 82], argTypes := #[3, 3] }, type := 3, pos := "law.go:57", after := #[{ on := 44, ground := Ground.data }, { on := 45, ground := Ground.data }, { on := 40, ground := Ground.guard }], guard := some (40, true) }) (v := _) (by as_aux_lemma => kernel_rfl) (by as_aux_lemma => kernel_rfl) (by as_aux_lemma => kernel_rfl) (by as_aux_lemma => kernel_rfl) (by exact fun _ _ _ h => hQp _ _ _ _ _ h) (Or.inl ⟨by as_aux_lemma => kernel_rfl, by intro w' hSw; (try dsimp only at hSw); first | (go_simp; done) | (go_simp; with_reducible rfl)⟩) hHeld ?_
              simp only [Act.put, List.setIfInBounds_toArray, List.set_cons_zero, List.set_cons_succ]
              refine wpAnyH_take (i := 47) (oi := { dst := some 84, op := Op.move (Operand.tmp 11), type := 3, pos := "law.go:57", after := #[{ on := 40, ground := Ground.guard }], guard := some (40, true) }) (v := _) (by as_aux_lemma => kernel_rfl) (by as_aux_lemma => kernel_rfl) (by as_aux_lemma => kernel_rfl) (by as_aux_lemma => kernel_rfl) (by exact fun _ _ _ h => hQp _ _ _ _ _ h) (Or.inl ⟨by as_aux_lemma => kernel_rfl, by intro w' hSw; (try dsimp only at hSw); first | (go_simp; done) | (go_simp; with_reducible rfl)⟩) hHeld ?_
              simp only [Act.put, List.setIfInBounds_toArray, List.set_cons_zero, List.set_cons_succ]
              refine wpAnyH_take (i := 48) (oi := { dst := some 85, op := Op.move (Operand.tmp 12), type := 3, pos := "law.go:57", after := #[{ on := 40, ground := Ground.guard }], guard := some (40, true) }) (v := _) (by as_aux_lemma => kernel_rfl) (by as_aux_lemma => kernel_rfl) (by as_aux_lemma => kernel_rfl) (by as_aux_lemma => kernel_rfl) (by exact fun _ _ _ h => hQp _ _ _ _ _ h) (Or.inl ⟨by as_aux_lemma => kernel_rfl, by intro w' hSw; (try dsimp only at hSw); first | (go_simp; done) | (go_simp; with_reducible rfl)⟩) hHeld ?_
              simp only [Act.put, List.setIfInBounds_toArray, List.set_cons_zero, List.set_cons_succ]
              refine wpAnyH_take (i := 49) (oi := { dst := some 86, op := Op.call { callee := Callee.builtin Builtin.max, args := #[Operand.tmp 84, Operand.tmp 85], argTypes := #[3, 3] }, type := 3, pos := "law.go:57", after := #[{ on := 47, ground := Ground.data }, { on := 48, ground := Ground.data }, { on := 40, ground := Ground.guard }], guard := some (40, true) }) (v := _) (by as_aux_lemma => kernel_rfl) (by as_aux_lemma => kernel_rfl) (by as_aux_lemma => kernel_rfl) (by as_aux_lemma => kernel_rfl) (by exact fun _ _ _ h => hQp _ _ _ _ _ h) (Or.inl ⟨by as_aux_lemma => kernel_rfl, by intro w' hSw; (try dsimp only at hSw); first | (go_simp; done) | (go_simp; with_reducible rfl)⟩) hHeld ?_
              simp only [Act.put, List.setIfInBounds_toArray, List.set_cons_zero, List.set_cons_succ]
              refine wpAnyH_take (i := 50) (oi := { dst := some 87, op := Op.build 25 #[(0, Operand.tmp 83), (1, Operand.tmp 86)], type := 25, pos := "law.go:57", after := #[{ on := 46, ground := Ground.data }, { on := 49, ground := Ground.data }, { on := 40, ground := Ground.guard }], guard := some (40, true) }) (v := _) (by as_aux_lemma => kernel_rfl) (by as_aux_lemma => kernel_rfl) (by as_aux_lemma => kernel_rfl) (by as_aux_lemma => kernel_rfl) (by exact fun _ _ _ h => hQp _ _ _ _ _ h) (Or.inl ⟨by as_aux_lemma => kernel_rfl, by intro w' hSw; (try dsimp only at hSw); first | (go_simp; done) | (go_simp; with_reducible rfl)⟩) hHeld ?_
              simp only [Act.put, List.setIfInBounds_toArray, List.set_cons_zero, List.set_cons_succ]
              refine wpAnyH_ready (rs := [43]) (by as_aux_lemma => kernel_rfl) (by simp) ?_
              refine AllReadyH.cons (o := { dst := some 80, op := Op.call { callee := Callee.value (Operand.func 12), args := #[Operand.tmp 78, Operand.tmp 79], argTypes := #[25, 3] }, type := 25, pos := "law.go:57", after := #[{ on := 41, ground := Ground.data }, { on := 42, ground := Ground.data }, { on := 40, ground := Ground.chain }, { on := 40, ground := Ground.guard }], guard := some (40, true) }) (by as_aux_lemma => kernel_rfl) (fun K hK => ?_) AllReadyH.nil
              refine ite_want (by as_aux_lemma => kernel_rfl) ?_
              go_simp
              go_wp2_with fail
              refine (HMul'.out _).mono ?_
              rintro r w11 ⟨rfl, hb11⟩
              have HB11 : Hid (Below w.heap.size w w11) := by first | exact HB10.out.trans (hb11.mono HB10.out.size) | exact HB10.out.drew.trans (hb11.mono HB10.out.drew.size)
              refine hK.out _ _ ⟨(hb11.cell (p := ⟨p7, 0, none⟩) (lt_of_cell hHeld.1)).trans hHeld.1, (hb11.cell (p := ⟨p7, 1, none⟩) (lt_of_cell hHeld.2.1)).trans hHeld.2.1, (hb11.cell (p := ⟨p8, 0, none⟩) (lt_of_cell hHeld.2.2.1)).trans hHeld.2.2.1, (hb11.cell (p := ⟨p8, 1, none⟩) (lt_of_cell hHeld.2.2.2)).trans hHeld.2.2.2⟩ (fun hHeld => ?_)
              clear hK K hb11
              as_aux_lemma =>
                refine wpAnyH_take (i := 51) (oi := { dst := some 88, op := Op.binOp BinOp.eql 25 (Operand.tmp 80) (Operand.tmp 87) 25, type := 4, pos := "law.go:57", after := #[{ on := 43, ground := Ground.data }, { on := 50, ground := Ground.data }, { on := 40, ground := Ground.guard }], guard := some (40, true) }) (v := _) (by as_aux_lemma => kernel_rfl) (by as_aux_lemma => kernel_rfl) (by as_aux_lemma => kernel_rfl) (by as_aux_lemma => kernel_rfl) (by exact fun _ _ _ h => hQp _ _ _ _ _ h) (Or.inl ⟨by as_aux_lemma => kernel_rfl, by intro w' hSw; (try dsimp only at hSw); first | (go_simp; done) | (go_simp; with_reducible rfl)⟩) hHeld ?_
                simp only [Act.put, List.setIfInBounds_toArray, List.set_cons_zero, List.set_cons_succ]
                refine wpAnyH_take (i := 52) (oi := { dst := some 89, op := Op.pick (Operand.tmp 77) (Operand.tmp 88) (Operand.const (Value.bool false)), type := 4, pos := "law.go:57", after := #[{ on := 40, ground := Ground.data }, { on := 51, ground := Ground.data }], guard := none }) (v := _) (by as_aux_lemma => kernel_rfl) (by as_aux_lemma => kernel_rfl) (by as_aux_lemma => kernel_rfl) (by as_aux_lemma => kernel_rfl) (by exact fun _ _ _ h => hQp _ _ _ _ _ h) (Or.inl ⟨by as_aux_lemma => kernel_rfl, by intro w' hSw; (try dsimp only at hSw); first | (go_simp; done) | (go_simp; with_reducible rfl)⟩) hHeld ?_
                simp only [Act.put, List.setIfInBounds_toArray, List.set_cons_zero, List.set_cons_succ]
                refine wpAnyH_take (i := 53) (oi := { dst := some 90, op := Op.move (Operand.tmp 89), type := 4, pos := "law.go:57", after := #[{ on := 52, ground := Ground.data }, { on := 43, ground := Ground.chain }], guard := none }) (v := _) (by as_aux_lemma => kernel_rfl) (by as_aux_lemma => kernel_rfl) (by as_aux_lemma => kernel_rfl) (by as_aux_lemma => kernel_rfl) (by exact fun _ _ _ h => hQp _ _ _ _ _ h) (Or.inl ⟨by as_aux_lemma => kernel_rfl, by intro w' hSw; (try dsimp only at hSw); first | (go_simp; done) | (go_simp; with_reducible rfl)⟩) hHeld ?_
                simp only [Act.put, List.setIfInBounds_toArray, List.set_cons_zero, List.set_cons_succ]
                refine wpAnyH_take (i := 54) (oi := { dst := some 91, op := Op.load 25 (Operand.tmp 7), type := 25, pos := "law.go:57", after := #[{ on := 53, ground := Ground.guard }], guard := some (53, true) }) (v := _) (by as_aux_lemma => kernel_rfl) (by as_aux_lemma => kernel_rfl) (by as_aux_lemma => kernel_rfl) (by as_aux_lemma => kernel_rfl) (by exact fun _ _ _ h => hQp _ _ _ _ _ h) (Or.inl ⟨by as_aux_lemma => kernel_rfl, by intro w' hSw; (try dsimp only at hSw); first | (go_simp; done) | (go_simp; with_reducible rfl)⟩) hHeld ?_
                simp only [Act.put, List.setIfInBounds_toArray, List.set_cons_zero, List.set_cons_succ]
                refine wpAnyH_take (i := 55) (oi := { dst := some 92, op := Op.move (Operand.tmp 9), type := 3, pos := "law.go:57", after := #[{ on := 53, ground := Ground.guard }], guard := some (53, true) }) (v := _) (by as_aux_lemma => kernel_rfl) (by as_aux_lemma => kernel_rfl) (by as_aux_lemma => kernel_rfl) (by as_aux_lemma => kernel_rfl) (by exact fun _ _ _ h => hQp _ _ _ _ _ h) (Or.inl ⟨by as_aux_lemma => kernel_rfl, by intro w' hSw; (try dsimp only at hSw); first | (go_simp; done) | (go_simp; with_reducible rfl)⟩) hHeld ?_
                simp only [Act.put, List.setIfInBounds_toArray, List.set_cons_zero, List.set_cons_succ]
                refine wpAnyH_take (i := 57) (oi := { dst := some 94, op := Op.fieldAddr 25 (Operand.tmp 7) 0, type := 0, pos := "law.go:57", after := #[{ on := 53, ground := Ground.guard }], guard := some (53, true) }) (v := _) (by as_aux_lemma => kernel_rfl) (by as_aux_lemma => kernel_rfl) (by as_aux_lemma => kernel_rfl) (by as_aux_lemma => kernel_rfl) (by exact fun _ _ _ h => hQp _ _ _ _ _ h) (Or.inl ⟨by as_aux_lemma => kernel_rfl, by intro w' hSw; (try dsimp only at hSw); first | (go_simp; done) | (go_simp; with_reducible rfl)⟩) hHeld ?_
                simp only [Act.put, List.setIfInBounds_toArray, List.set_cons_zero, List.set_cons_succ]
                refine wpAnyH_take (i := 58) (oi := { dst := some 95, op := Op.load 3 (Operand.tmp 94), type := 3, pos := "law.go:57", after := #[{ on := 57, ground := Ground.data }, { on := 53, ground := Ground.guard }], guard := some (53, true) }) (v := _) (by as_aux_lemma => kernel_rfl) (by as_aux_lemma => kernel_rfl) (by as_aux_lemma => kernel_rfl) (by as_aux_lemma => kernel_rfl) (by exact fun _ _ _ h => hQp _ _ _ _ _ h) (Or.inl ⟨by as_aux_lemma => kernel_rfl, by intro w' hSw; (try dsimp only at hSw); first | (go_simp; done) | (go_simp; with_reducible rfl)⟩) hHeld ?_
                simp only [Act.put, List.setIfInBounds_toArray, List.set_cons_zero, List.set_cons_succ]
                refine wpAnyH_take (i := 59) (oi := { dst := some 96, op := Op.call { callee := Callee.builtin Builtin.max, args := #[Operand.tmp 95, Operand.const (Value.int IntKind.i64 0)], argTypes := #[3, 3] }, type := 3, pos := "law.go:57", after := #[{ on := 58, ground := Ground.data }, { on := 53, ground := Ground.guard }], guard := some (53, true) }) (v := _) (by as_aux_lemma => kernel_rfl) (by as_aux_lemma => kernel_rfl) (by as_aux_lemma => kernel_rfl) (by as_aux_lemma => kernel_rfl) (by exact fun _ _ _ h => hQp _ _ _ _ _ h) (Or.inl ⟨by as_aux_lemma => kernel_rfl, by intro w' hSw; (try dsimp only at hSw); first | (go_simp; done) | (go_simp; with_reducible rfl)⟩) hHeld ?_
                simp only [Act.put, List.setIfInBounds_toArray, List.set_cons_zero, List.set_cons_succ]
                refine wpAnyH_take (i := 60) (oi := { dst := some 97, op := Op.move (Operand.tmp 9), type := 3, pos := "law.go:57", after := #[{ on := 53, ground := Ground.guard }], guard := some (53, true) }) (v := _) (by as_aux_lemma => kernel_rfl) (by as_aux_lemma => kernel_rfl) (by as_aux_lemma => kernel_rfl) (by as_aux_lemma => kernel_rfl) (by exact fun _ _ _ h => hQp _ _ _ _ _ h) (Or.inl ⟨by as_aux_lemma => kernel_rfl, by intro w' hSw; (try dsimp only at hSw); first | (go_simp; done) | (go_simp; with_reducible rfl)⟩) hHeld ?_
                simp only [Act.put, List.setIfInBounds_toArray, List.set_cons_zero, List.set_cons_succ]
                refine wpAnyH_take (i := 61) (oi := { dst := some 98, op := Op.call { callee := Callee.builtin Builtin.min, args := #[Operand.tmp 96, Operand.tmp 97], argTypes := #[3, 3] }, type := 3, pos := "law.go:57", after := #[{ on := 59, ground := Ground.data }, { on := 60, ground := Ground.data }, { on := 53, ground := Ground.guard }], guard := some (53, true) }) (v := _) (by as_aux_lemma => kernel_rfl) (by as_aux_lemma => kernel_rfl) (by as_aux_lemma => kernel_rfl) (by as_aux_lemma => kernel_rfl) (by exact fun _ _ _ h => hQp _ _ _ _ _ h) (Or.inl ⟨by as_aux_lemma => kernel_rfl, by intro w' hSw; (try dsimp only at hSw); first | (go_simp; done) | (go_simp; with_reducible rfl)⟩) hHeld ?_
                simp only [Act.put, List.setIfInBounds_toArray, List.set_cons_zero, List.set_cons_succ]
                refine wpAnyH_take (i := 62) (oi := { dst := some 99, op := Op.fieldAddr 25 (Operand.tmp 7) 1, type := 0, pos := "law.go:57", after := #[{ on := 53, ground := Ground.guard }], guard := some (53, true) }) (v := _) (by as_aux_lemma => kernel_rfl) (by as_aux_lemma => kernel_rfl) (by as_aux_lemma => kernel_rfl) (by as_aux_lemma => kernel_rfl) (by exact fun _ _ _ h => hQp _ _ _ _ _ h) (Or.inl ⟨by as_aux_lemma => kernel_rfl, by intro w' hSw; (try dsimp only at hSw); first | (go_simp; done) | (go_simp; with_reducible rfl)⟩) hHeld ?_
                simp only [Act.put, List.setIfInBounds_toArray, List.set_cons_zero, List.set_cons_succ]
                refine wpAnyH_take (i := 63) (oi := { dst := some 100, op := Op.load 3 (Operand.tmp 99), type := 3, pos := "law.go:57", after := #[{ on := 62, ground := Ground.data }, { on := 53, ground := Ground.guard }], guard := some (53, true) }) (v := _) (by as_aux_lemma => kernel_rfl) (by as_aux_lemma => kernel_rfl) (by as_aux_lemma => kernel_rfl) (by as_aux_lemma => kernel_rfl) (by exact fun _ _ _ h => hQp _ _ _ _ _ h) (Or.inl ⟨by as_aux_lemma => kernel_rfl, by intro w' hSw; (try dsimp only at hSw); first | (go_simp; done) | (go_simp; with_reducible rfl)⟩) hHeld ?_
                simp only [Act.put, List.setIfInBounds_toArray, List.set_cons_zero, List.set_cons_succ]
                refine wpAnyH_take (i := 64) (oi := { dst := some 101, op := Op.call { callee := Callee.builtin Builtin.max, args := #[Operand.tmp 100, Operand.const (Value.int IntKind.i64 0)], argTypes := #[3, 3] }, type := 3, pos := "law.go:57", after := #[{ on := 63, ground := Ground.data }, { on := 53, ground := Ground.guard }], guard := some (53, true) }) (v := _) (by as_aux_lemma => kernel_rfl) (by as_aux_lemma => kernel_rfl) (by as_aux_lemma => kernel_rfl) (by as_aux_lemma => kernel_rfl) (by exact fun _ _ _ h => hQp _ _ _ _ _ h) (Or.inl ⟨by as_aux_lemma => kernel_rfl, by intro w' hSw; (try dsimp only at hSw); first | (go_simp; done) | (go_simp; with_reducible rfl)⟩) hHeld ?_
                simp only [Act.put, List.setIfInBounds_toArray, List.set_cons_zero, List.set_cons_succ]
                refine wpAnyH_take (i := 65) (oi := { dst := some 102, op := Op.move (Operand.tmp 9), type := 3, pos := "law.go:57", after := #[{ on := 53, ground := Ground.guard }], guard := some (53, true) }) (v := _) (by as_aux_lemma => kernel_rfl) (by as_aux_lemma => kernel_rfl) (by as_aux_lemma => kernel_rfl) (by as_aux_lemma => kernel_rfl) (by exact fun _ _ _ h => hQp _ _ _ _ _ h) (Or.inl ⟨by as_aux_lemma => kernel_rfl, by intro w' hSw; (try dsimp only at hSw); first | (go_simp; done) | (go_simp; with_reducible rfl)⟩) hHeld ?_
                simp only [Act.put, List.setIfInBounds_toArray, List.set_cons_zero, List.set_cons_succ]
                refine wpAnyH_take (i := 66) (oi := { dst := some 103, op := Op.call { callee := Callee.builtin Builtin.min, args := #[Operand.tmp 101, Operand.tmp 102], argTypes := #[3, 3] }, type := 3, pos := "law.go:57", after := #[{ on := 64, ground := Ground.data }, { on := 65, ground := Ground.data }, { on := 53, ground := Ground.guard }], guard := some (53, true) }) (v := _) (by as_aux_lemma => kernel_rfl) (by as_aux_lemma => kernel_rfl) (by as_aux_lemma => kernel_rfl) (by as_aux_lemma => kernel_rfl) (by exact fun _ _ _ h => hQp _ _ _ _ _ h) (Or.inl ⟨by as_aux_lemma => kernel_rfl, by intro w' hSw; (try dsimp only at hSw); first | (go_simp; done) | (go_simp; with_reducible rfl)⟩) hHeld ?_
                simp only [Act.put, List.setIfInBounds_toArray, List.set_cons_zero, List.set_cons_succ]
                refine wpAnyH_take (i := 67) (oi := { dst := some 104, op := Op.build 25 #[(0, Operand.tmp 98), (1, Operand.tmp 103)], type := 25, pos := "law.go:57", after := #[{ on := 61, ground := Ground.data }, { on := 66, ground := Ground.data }, { on := 53, ground := Ground.guard }], guard := some (53, true) }) (v := _) (by as_aux_lemma => kernel_rfl) (by as_aux_lemma => kernel_rfl) (by as_aux_lemma => kernel_rfl) (by as_aux_lemma => kernel_rfl) (by exact fun _ _ _ h => hQp _ _ _ _ _ h) (Or.inl ⟨by as_aux_lemma => kernel_rfl, by intro w' hSw; (try dsimp only at hSw); first | (go_simp; done) | (go_simp; with_reducible rfl)⟩) hHeld ?_
                simp only [Act.put, List.setIfInBounds_toArray, List.set_cons_zero, List.set_cons_succ]
                refine wpAnyH_ready (rs := [56]) (by as_aux_lemma => kernel_rfl) (by simp) ?_
                refine AllReadyH.cons (o := { dst := some 93, op := Op.call { callee := Callee.value (Operand.func 13), args := #[Operand.tmp 91, Operand.tmp 92], argTypes := #[25, 3] }, type := 25, pos := "law.go:57", after := #[{ on := 54, ground := Ground.data }, { on := 55, ground := Ground.data }, { on := 53, ground := Ground.chain }, { on := 53, ground := Ground.guard }], guard := some (53, true) }) (by as_aux_lemma => kernel_rfl) (fun K hK => ?_) AllReadyH.nil
                refine ite_want (by as_aux_lemma => kernel_rfl) ?_
                go_simp
                go_wp2_with fail
                refine (HCl'.out _).mono ?_
                rintro r w12 ⟨rfl, hb12⟩
                have HB12 : Hid (Below w.heap.size w w12) := by first | exact HB11.out.trans (hb12.mono HB11.out.size) | exact HB11.out.drew.trans (hb12.mono HB11.out.drew.size)
                refine hK.out _ _ ⟨(hb12.cell (p := ⟨p7, 0, none⟩) (lt_of_cell hHeld.1)).trans hHeld.1, (hb12.cell (p := ⟨p7, 1, none⟩) (lt_of_cell hHeld.2.1)).trans hHeld.2.1, (hb12.cell (p := ⟨p8, 0, none⟩) (lt_of_cell hHeld.2.2.1)).trans hHeld.2.2.1, (hb12.cell (p := ⟨p8, 1, none⟩) (lt_of_cell hHeld.2.2.2)).trans hHeld.2.2.2⟩ (fun hHeld => ?_)
                clear hK K hb12
                as_aux_lemma =>
                  refine wpAnyH_take (i := 68) (oi := { dst := some 105, op := Op.binOp BinOp.eql 25 (Operand.tmp 93) (Operand.tmp 104) 25, type := 4, pos := "law.go:57", after := #[{ on := 56, ground := Ground.data }, { on := 67, ground := Ground.data }, { on := 53, ground := Ground.guard }], guard := some (53, true) }) (v := _) (by as_aux_lemma => kernel_rfl) (by as_aux_lemma => kernel_rfl) (by as_aux_lemma => kernel_rfl) (by as_aux_lemma => kernel_rfl) (by exact fun _ _ _ h => hQp _ _ _ _ _ h) (Or.inl ⟨by as_aux_lemma => kernel_rfl, by intro w' hSw; (try dsimp only at hSw); first | (go_simp; done) | (go_simp; with_reducible rfl)⟩) hHeld ?_
                  simp only [Act.put, List.setIfInBounds_toArray, List.set_cons_zero, List.set_cons_succ]
                  refine wpAnyH_take (i := 69) (oi := { dst := some 106, op := Op.pick (Operand.tmp 90) (Operand.tmp 105) (Operand.const (Value.bool false)), type := 4, pos := "law.go:57", after := #[{ on := 53, ground := Ground.data }, { on := 68, ground := Ground.data }], guard := none }) (v := _) (by as_aux_lemma => kernel_rfl) (by as_aux_lemma => kernel_rfl) (by as_aux_lemma => kernel_rfl) (by as_aux_lemma => kernel_rfl) (by exact fun _ _ _ h => hQp _ _ _ _ _ h) (Or.inl ⟨by as_aux_lemma => kernel_rfl, by intro w' hSw; (try dsimp only at hSw); first | (go_simp; done) | (go_simp; with_reducible rfl)⟩) hHeld ?_
                  simp only [Act.put, List.setIfInBounds_toArray, List.set_cons_zero, List.set_cons_succ]
                  refine wpAnyH_take (i := 70) (oi := { dst := some 107, op := Op.move (Operand.tmp 106), type := 4, pos := "law.go:57", after := #[{ on := 69, ground := Ground.data }, { on := 56, ground := Ground.chain }], guard := none }) (v := _) (by as_aux_lemma => kernel_rfl) (by as_aux_lemma => kernel_rfl) (by as_aux_lemma => kernel_rfl) (by as_aux_lemma => kernel_rfl) (by exact fun _ _ _ h => hQp _ _ _ _ _ h) (Or.inl ⟨by as_aux_lemma => kernel_rfl, by intro w' hSw; (try dsimp only at hSw); first | (go_simp; done) | (go_simp; with_reducible rfl)⟩) hHeld ?_
                  simp only [Act.put, List.setIfInBounds_toArray, List.set_cons_zero, List.set_cons_succ]
                  refine wpAnyH_take (i := 71) (oi := { dst := some 108, op := Op.load 25 (Operand.tmp 7), type := 25, pos := "law.go:57", after := #[{ on := 70, ground := Ground.guard }], guard := some (70, true) }) (v := _) (by as_aux_lemma => kernel_rfl) (by as_aux_lemma => kernel_rfl) (by as_aux_lemma => kernel_rfl) (by as_aux_lemma => kernel_rfl) (by exact fun _ _ _ h => hQp _ _ _ _ _ h) (Or.inl ⟨by as_aux_lemma => kernel_rfl, by intro w' hSw; (try dsimp only at hSw); first | (go_simp; done) | (go_simp; with_reducible rfl)⟩) hHeld ?_
                  simp only [Act.put, List.setIfInBounds_toArray, List.set_cons_zero, List.set_cons_succ]
                  refine wpAnyH_take (i := 72) (oi := { dst := some 109, op := Op.load 25 (Operand.tmp 8), type := 25, pos := "law.go:57", after := #[{ on := 70, ground := Ground.guard }], guard := some (70, true) }) (v := _) (by as_aux_lemma => kernel_rfl) (by as_aux_lemma => kernel_rfl) (by as_aux_lemma => kernel_rfl) (by as_aux_lemma => kernel_rfl) (by exact fun _ _ _ h => hQp _ _ _ _ _ h) (Or.inl ⟨by as_aux_lemma => kernel_rfl, by intro w' hSw; (try dsimp only at hSw); first | (go_simp; done) | (go_simp; with_reducible rfl)⟩) hHeld ?_
                  simp only [Act.put, List.setIfInBounds_toArray, List.set_cons_zero, List.set_cons_succ]
                  refine wpAnyH_take (i := 74) (oi := { dst := some 111, op := Op.fieldAddr 25 (Operand.tmp 7) 0, type := 0, pos := "law.go:57", after := #[{ on := 70, ground := Ground.guard }], guard := some (70, true) }) (v := _) (by as_aux_lemma => kernel_rfl) (by as_aux_lemma => kernel_rfl) (by as_aux_lemma => kernel_rfl) (by as_aux_lemma => kernel_rfl) (by exact fun _ _ _ h => hQp _ _ _ _ _ h) (Or.inl ⟨by as_aux_lemma => kernel_rfl, by intro w' hSw; (try dsimp only at hSw); first | (go_simp; done) | (go_simp; with_reducible rfl)⟩) hHeld ?_
                  simp only [Act.put, List.setIfInBounds_toArray, List.set_cons_zero, List.set_cons_succ]
                  refine wpAnyH_take (i := 75) (oi := { dst := some 112, op := Op.load 3 (Operand.tmp 111), type := 3, pos := "law.go:57", after := #[{ on := 74, ground := Ground.data }, { on := 70, ground := Ground.guard }], guard := some (70, true) }) (v := _) (by as_aux_lemma => kernel_rfl) (by as_aux_lemma => kernel_rfl) (by as_aux_lemma => kernel_rfl) (by as_aux_lemma => kernel_rfl) (by exact fun _ _ _ h => hQp _ _ _ _ _ h) (Or.inl ⟨by as_aux_lemma => kernel_rfl, by intro w' hSw; (try dsimp only at hSw); first | (go_simp; done) | (go_simp; with_reducible rfl)⟩) hHeld ?_
                  simp only [Act.put, List.setIfInBounds_toArray, List.set_cons_zero, List.set_cons_succ]
                  refine wpAnyH_take (i := 76) (oi := { dst := some 113, op := Op.fieldAddr 25 (Operand.tmp 8) 0, type := 0, pos := "law.go:57", after := #[{ on := 70, ground := Ground.guard }], guard := some (70, true) }) (v := _) (by as_aux_lemma => kernel_rfl) (by as_aux_lemma => kernel_rfl) (by as_aux_lemma => kernel_rfl) (by as_aux_lemma => kernel_rfl) (by exact fun _ _ _ h => hQp _ _ _ _ _ h) (Or.inl ⟨by as_aux_lemma => kernel_rfl, by intro w' hSw; (try dsimp only at hSw); first | (go_simp; done) | (go_simp; with_reducible rfl)⟩) hHeld ?_
                  simp only [Act.put, List.setIfInBounds_toArray, List.set_cons_zero, List.set_cons_succ]
                  refine wpAnyH_take (i := 77) (oi := { dst := some 114, op := Op.load 3 (Operand.tmp 113), type := 3, pos := "law.go:57", after := #[{ on := 76, ground := Ground.data }, { on := 70, ground := Ground.guard }], guard := some (70, true) }) (v := _) (by as_aux_lemma => kernel_rfl) (by as_aux_lemma => kernel_rfl) (by as_aux_lemma => kernel_rfl) (by as_aux_lemma => kernel_rfl) (by exact fun _ _ _ h => hQp _ _ _ _ _ h) (Or.inl ⟨by as_aux_lemma => kernel_rfl, by intro w' hSw; (try dsimp only at hSw); first | (go_simp; done) | (go_simp; with_reducible rfl)⟩) hHeld ?_
                  simp only [Act.put, List.setIfInBounds_toArray, List.set_cons_zero, List.set_cons_succ]
                  refine wpAnyH_take (i := 78) (oi := { dst := some 115, op := Op.call { callee := Callee.builtin Builtin.min, args := #[Operand.tmp 112, Operand.tmp 114], argTypes := #[3, 3] }, type := 3, pos := "law.go:57", after := #[{ on := 75, ground := Ground.data }, { on := 77, ground := Ground.data }, { on := 70, ground := Ground.guard }], guard := some (70, true) }) (v := _) (by as_aux_lemma => kernel_rfl) (by as_aux_lemma => kernel_rfl) (by as_aux_lemma => kernel_rfl) (by as_aux_lemma => kernel_rfl) (by exact fun _ _ _ h => hQp _ _ _ _ _ h) (Or.inl ⟨by as_aux_lemma => kernel_rfl, by intro w' hSw; (try dsimp only at hSw); first | (go_simp; done) | (go_simp; with_reducible rfl)⟩) hHeld ?_
                  simp only [Act.put, List.setIfInBounds_toArray, List.set_cons_zero, List.set_cons_succ]
                  refine wpAnyH_take (i := 79) (oi := { dst := some 116, op := Op.fieldAddr 25 (Operand.tmp 7) 1, type := 0, pos := "law.go:57", after := #[{ on := 70, ground := Ground.guard }], guard := some (70, true) }) (v := _) (by as_aux_lemma => kernel_rfl) (by as_aux_lemma => kernel_rfl) (by as_aux_lemma => kernel_rfl) (by as_aux_lemma => kernel_rfl) (by exact fun _ _ _ h => hQp _ _ _ _ _ h) (Or.inl ⟨by as_aux_lemma => kernel_rfl, by intro w' hSw; (try dsimp only at hSw); first | (go_simp; done) | (go_simp; with_reducible rfl)⟩) hHeld ?_
                  simp only [Act.put, List.setIfInBounds_toArray, List.set_cons_zero, List.set_cons_succ]
                  refine wpAnyH_take (i := 80) (oi := { dst := some 117, op := Op.load 3 (Operand.tmp 116), type := 3, pos := "law.go:57", after := #[{ on := 79, ground := Ground.data }, { on := 70, ground := Ground.guard }], guard := some (70, true) }) (v := _) (by as_aux_lemma => kernel_rfl) (by as_aux_lemma => kernel_rfl) (by as_aux_lemma => kernel_rfl) (by as_aux_lemma => kernel_rfl) (by exact fun _ _ _ h => hQp _ _ _ _ _ h) (Or.inl ⟨by as_aux_lemma => kernel_rfl, by intro w' hSw; (try dsimp only at hSw); first | (go_simp; done) | (go_simp; with_reducible rfl)⟩) hHeld ?_
                  simp only [Act.put, List.setIfInBounds_toArray, List.set_cons_zero, List.set_cons_succ]
                  refine wpAnyH_take (i := 81) (oi := { dst := some 118, op := Op.fieldAddr 25 (Operand.tmp 8) 1, type := 0, pos := "law.go:57", after := #[{ on := 70, ground := Ground.guard }], guard := some (70, true) }) (v := _) (by as_aux_lemma => kernel_rfl) (by as_aux_lemma => kernel_rfl) (by as_aux_lemma => kernel_rfl) (by as_aux_lemma => kernel_rfl) (by exact fun _ _ _ h => hQp _ _ _ _ _ h) (Or.inl ⟨by as_aux_lemma => kernel_rfl, by intro w' hSw; (try dsimp only at hSw); first | (go_simp; done) | (go_simp; with_reducible rfl)⟩) hHeld ?_
                  simp only [Act.put, List.setIfInBounds_toArray, List.set_cons_zero, List.set_cons_succ]
                  refine wpAnyH_take (i := 82) (oi := { dst := some 119, op := Op.load 3 (Operand.tmp 118), type := 3, pos := "law.go:57", after := #[{ on := 81, ground := Ground.data }, { on := 70, ground := Ground.guard }], guard := some (70, true) }) (v := _) (by as_aux_lemma => kernel_rfl) (by as_aux_lemma => kernel_rfl) (by as_aux_lemma => kernel_rfl) (by as_aux_lemma => kernel_rfl) (by exact fun _ _ _ h => hQp _ _ _ _ _ h) (Or.inl ⟨by as_aux_lemma => kernel_rfl, by intro w' hSw; (try dsimp only at hSw); first | (go_simp; done) | (go_simp; with_reducible rfl)⟩) hHeld ?_
                  simp only [Act.put, List.setIfInBounds_toArray, List.set_cons_zero, List.set_cons_succ]
                  refine wpAnyH_take (i := 83) (oi := { dst := some 120, op := Op.call { callee := Callee.builtin Builtin.max, args := #[Operand.tmp 117, Operand.tmp 119], argTypes := #[3, 3] }, type := 3, pos := "law.go:57", after := #[{ on := 80, ground := Ground.data }, { on := 82, ground := Ground.data }, { on := 70, ground := Ground.guard }], guard := some (70, true) }) (v := _) (by as_aux_lemma => kernel_rfl) (by as_aux_lemma => kernel_rfl) (by as_aux_lemma => kernel_rfl) (by as_aux_lemma => kernel_rfl) (by exact fun _ _ _ h => hQp _ _ _ _ _ h) (Or.inl ⟨by as_aux_lemma => kernel_rfl, by intro w' hSw; (try dsimp only at hSw); first | (go_simp; done) | (go_simp; with_reducible rfl)⟩) hHeld ?_
                  simp only [Act.put, List.setIfInBounds_toArray, List.set_cons_zero, List.set_cons_succ]
                  refine wpAnyH_take (i := 84) (oi := { dst := some 121, op := Op.build 25 #[(0, Operand.tmp 115), (1, Operand.tmp 120)], type := 25, pos := "law.go:57", after := #[{ on := 78, ground := Ground.data }, { on := 83, ground := Ground.data }, { on := 70, ground := Ground.guard }], guard := some (70, true) }) (v := _) (by as_aux_lemma => kernel_rfl) (by as_aux_lemma => kernel_rfl) (by as_aux_lemma => kernel_rfl) (by as_aux_lemma => kernel_rfl) (by exact fun _ _ _ h => hQp _ _ _ _ _ h) (Or.inl ⟨by as_aux_lemma => kernel_rfl, by intro w' hSw; (try dsimp only at hSw); first | (go_simp; done) | (go_simp; with_reducible rfl)⟩) hHeld ?_
                  simp only [Act.put, List.setIfInBounds_toArray, List.set_cons_zero, List.set_cons_succ]
                  refine wpAnyH_ready (rs := [73]) (by as_aux_lemma => kernel_rfl) (by simp) ?_
                  refine AllReadyH.cons (o := { dst := some 110, op := Op.call { callee := Callee.value (Operand.func 14), args := #[Operand.tmp 108, Operand.tmp 109], argTypes := #[25, 25] }, type := 25, pos := "law.go:57", after := #[{ on := 71, ground := Ground.data }, { on := 72, ground := Ground.data }, { on := 70, ground := Ground.chain }, { on := 70, ground := Ground.guard }], guard := some (70, true) }) (by as_aux_lemma => kernel_rfl) (fun K hK => ?_) AllReadyH.nil
                  refine ite_want (by as_aux_lemma => kernel_rfl) ?_
                  go_simp
                  go_wp2_with fail
                  refine (HJ'.out _).mono ?_
                  rintro r w13 ⟨rfl, hb13⟩
                  have HB13 : Hid (Below w.heap.size w w13) := by first | exact HB12.out.trans (hb13.mono HB12.out.size) | exact HB12.out.drew.trans (hb13.mono HB12.out.drew.size)
                  refine hK.out _ _ ⟨(hb13.cell (p := ⟨p7, 0, none⟩) (lt_of_cell hHeld.1)).trans hHeld.1, (hb13.cell (p := ⟨p7, 1, none⟩) (lt_of_cell hHeld.2.1)).trans hHeld.2.1, (hb13.cell (p := ⟨p8, 0, none⟩) (lt_of_cell hHeld.2.2.1)).trans hHeld.2.2.1, (hb13.cell (p := ⟨p8, 1, none⟩) (lt_of_cell hHeld.2.2.2)).trans hHeld.2.2.2⟩ (fun hHeld => ?_)
                  clear hK K hb13
                  as_aux_lemma =>
                    refine wpAnyH_take (i := 85) (oi := { dst := some 122, op := Op.binOp BinOp.eql 25 (Operand.tmp 110) (Operand.tmp 121) 25, type := 4, pos := "law.go:57", after := #[{ on := 73, ground := Ground.data }, { on := 84, ground := Ground.data }, { on := 70, ground := Ground.guard }], guard := some (70, true) }) (v := _) (by as_aux_lemma => kernel_rfl) (by as_aux_lemma => kernel_rfl) (by as_aux_lemma => kernel_rfl) (by as_aux_lemma => kernel_rfl) (by exact fun _ _ _ h => hQp _ _ _ _ _ h) (Or.inl ⟨by as_aux_lemma => kernel_rfl, by intro w' hSw; (try dsimp only at hSw); first | (go_simp; done) | (go_simp; with_reducible rfl)⟩) hHeld ?_
                    simp only [Act.put, List.setIfInBounds_toArray, List.set_cons_zero, List.set_cons_succ]
                    refine wpAnyH_take (i := 86) (oi := { dst := some 123, op := Op.pick (Operand.tmp 107) (Operand.tmp 122) (Operand.const (Value.bool false)), type := 4, pos := "law.go:57", after := #[{ on := 70, ground := Ground.data }, { on := 85, ground := Ground.data }], guard := none }) (v := _) (by as_aux_lemma => kernel_rfl) (by as_aux_lemma => kernel_rfl) (by as_aux_lemma => kernel_rfl) (by as_aux_lemma => kernel_rfl) (by exact fun _ _ _ h => hQp _ _ _ _ _ h) (Or.inl ⟨by as_aux_lemma => kernel_rfl, by intro w' hSw; (try dsimp only at hSw); first | (go_simp; done) | (go_simp; with_reducible rfl)⟩) hHeld ?_
                    simp only [Act.put, List.setIfInBounds_toArray, List.set_cons_zero, List.set_cons_succ]
                    refine wpAnyH_take (i := 87) (oi := { dst := some 6, op := Op.assign (Operand.tmp 123), type := 4, pos := "law.go:57", after := List.toArray (List.append [{ on := 86, ground := Ground.data }, { on := 73, ground := Ground.chain }, { on := 0, ground := Ground.phase }, { on := 1, ground := Ground.phase }, { on := 2, ground := Ground.phase }, { on := 3, ground := Ground.phase }, { on := 4, ground := Ground.phase }, { on := 5, ground := Ground.phase }, { on := 6, ground := Ground.phase }, { on := 7, ground := Ground.phase }, { on := 8, ground := Ground.phase }, { on := 9, ground := Ground.phase }, { on := 10, ground := Ground.phase }, { on := 11, ground := Ground.phase }, { on := 12, ground := Ground.phase }, { on := 13, ground := Ground.phase }, { on := 14, ground := Ground.phase }, { on := 15, ground := Ground.phase }, { on := 16, ground := Ground.phase }, { on := 17, ground := Ground.phase }, { on := 18, ground := Ground.phase }, { on := 19, ground := Ground.phase }, { on := 20, ground := Ground.phase }, { on := 21, ground := Ground.phase }, { on := 22, ground := Ground.phase }, { on := 23, ground := Ground.phase }, { on := 24, ground := Ground.phase }, { on := 25, ground := Ground.phase }, { on := 26, ground := Ground.phase }, { on := 27, ground := Ground.phase }, { on := 28, ground := Ground.phase }, { on := 29, ground := Ground.phase }, { on := 30, ground := Ground.phase }, { on := 31, ground := Ground.phase }, { on := 32, ground := Ground.phase }, { on := 33, ground := Ground.phase }, { on := 34, ground := Ground.phase }, { on := 35, ground := Ground.phase }, { on := 36, ground := Ground.phase }, { on := 37, ground := Ground.phase }, { on := 38, ground := Ground.phase }, { on := 39, ground := Ground.phase }, { on := 40, ground := Ground.phase }, { on := 41, ground := Ground.phase }] [{ on := 42, ground := Ground.phase }, { on := 43, ground := Ground.phase }, { on := 44, ground := Ground.phase }, { on := 45, ground := Ground.phase }, { on := 46, ground := Ground.phase }, { on := 47, ground := Ground.phase }, { on := 48, ground := Ground.phase }, { on := 49, ground := Ground.phase }, { on := 50, ground := Ground.phase }, { on := 51, ground := Ground.phase }, { on := 52, ground := Ground.phase }, { on := 53, ground := Ground.phase }, { on := 54, ground := Ground.phase }, { on := 55, ground := Ground.phase }, { on := 56, ground := Ground.phase }, { on := 57, ground := Ground.phase }, { on := 58, ground := Ground.phase }, { on := 59, ground := Ground.phase }, { on := 60, ground := Ground.phase }, { on := 61, ground := Ground.phase }, { on := 62, ground := Ground.phase }, { on := 63, ground := Ground.phase }, { on := 64, ground := Ground.phase }, { on := 65, ground := Ground.phase }, { on := 66, ground := Ground.phase }, { on := 67, ground := Ground.phase }, { on := 68, ground := Ground.phase }, { on := 69, ground := Ground.phase }, { on := 70, ground := Ground.phase }, { on := 71, ground := Ground.phase }, { on := 72, ground := Ground.phase }, { on := 73, ground := Ground.phase }, { on := 74, ground := Ground.phase }, { on := 75, ground := Ground.phase }, { on := 76, ground := Ground.phase }, { on := 77, ground := Ground.phase }, { on := 78, ground := Ground.phase }, { on := 79, ground := Ground.phase }, { on := 80, ground := Ground.phase }, { on := 81, ground := Ground.phase }, { on := 82, ground := Ground.phase }, { on := 83, ground := Ground.phase }, { on := 84, ground := Ground.phase }, { on := 85, ground := Ground.phase }, { on := 86, ground := Ground.phase }]), guard := none }) (v := _) (by as_aux_lemma => kernel_rfl) (by as_aux_lemma => kernel_rfl) (by as_aux_lemma => kernel_rfl) (by as_aux_lemma => kernel_rfl) (by exact fun _ _ _ h => hQp _ _ _ _ _ h) (Or.inl ⟨by as_aux_lemma => kernel_rfl, by intro w' hSw; (try dsimp only at hSw); first | (go_simp; done) | (go_simp; with_reducible rfl)⟩) hHeld ?_
                    simp only [Act.put, List.setIfInBounds_toArray, List.set_cons_zero, List.set_cons_succ]
                    refine wpAnyH_done (by as_aux_lemma => kernel_rfl) ?_ _
                    exact hfin _ HB13.out hHeld


theorem least_in (x y z u n : Int) (w : World) (hn : -2147483648 ≤ n ∧ n ≤ 2147483648) :
    Calls Try.prog 3 #[.agg #[.int .i64 x, .int .i64 y], .agg #[.int .i64 z, .int .i64 u], .int .i64 n] w fun r w' => r = .returned (.bool true) ∧ Below w.heap.size w w' := by
  obtain ⟨h1, h2, h3⟩ := span_le x y
  obtain ⟨h4, h5, h6⟩ := span_le z u
  have HMa : Hid (∀ w, _) := fun w => made_any x y w
  have HMb : Hid (∀ w, _) := fun w => made_any z u w
  generalize mnF (capF x) (capF y) = a at *
  generalize mxF (capF x) (capF y) = b at *
  generalize mnF (capF z) (capF u) = c at *
  generalize mxF (capF z) (capF u) = d at *
  obtain ⟨w0, hw0⟩ : ∃ w0, w0 = (w.alloc (.cells #[.int .i64 x, .int .i64 y] 22)).alloc (.cells #[.int .i64 z, .int .i64 u] 22) := ⟨_, rfl⟩
  have HB0 : Hid (Below w.heap.size w w0) := by rw [hw0]; exact ((Below.refl _ _).alloc (Nat.le_refl _) _).alloc (by simp) _
  have hA0 : w0.heap[w.heap.size]? = some (.cells #[.int .i64 x, .int .i64 y] 22 (0, 0)) := by rw [hw0, Below.heap_alloc _ _ _ (by simp)]; exact heap_alloc_new w _
  have hC0 : w0.heap[w.heap.size + 1]? = some (.cells #[.int .i64 z, .int .i64 u] 22 (0, 0)) := by
    have := heap_alloc_new (w.alloc (.cells #[.int .i64 x, .int .i64 y] 22)) (Obj.cells #[.int .i64 z, .int .i64 u] 22)
    rw [World.size_alloc, ← hw0] at this
    exact this
  have hn1 : decide (n < -2147483648) = false := decide_eq_false (by omega)
  have hn2 : decide (2147483648 < n) = false := decide_eq_false (by omega)
  go_enter Try.func3, Try.ntmps3
  go_wp2_with fail
  rw [← hw0]
  clear hw0
  refine (speaks_any _).mono ?_
  rintro r w1 ⟨rfl, hb1⟩
  have HB1 : Hid (Below w.heap.size w w1) := HB0.out.trans (hb1.mono HB0.out.size)
  have hA1 := (hb1.block _ (lt_of_heap hA0)).trans hA0
  have hC1 := (hb1.block _ (lt_of_heap hC0)).trans hC0
  clear hb1 hA0 hC0 HB0
  go_wp2_with fail
  refine least_reg3 w1 w.heap.size x y z u a b c d hA1 hC1 HMa.out HMb.out (by intro _ _ d _ _ h; cases d <;> exact h) (fun p7 p8 w2 hb2 hp7 hp8 hne hs ht => ?_)
  clear hA1 hC1 HMa HMb
  have HB2 : Hid (Below w.heap.size w w2) := HB1.out.trans (hb2.mono HB1.out.size)
  clear hb2 HB1
  have s0 : w2.cell? ⟨p7, 0, none⟩ = some (.int .i64 a) := cell_of_heap hs 0 _ rfl
  have s1 : w2.cell? ⟨p7, 1, none⟩ = some (.int .i64 b) := cell_of_heap hs 1 _ rfl
  have t0 : w2.cell? ⟨p8, 0, none⟩ = some (.int .i64 c) := cell_of_heap ht 0 _ rfl
  have t1 : w2.cell? ⟨p8, 1, none⟩ = some (.int .i64 d) := cell_of_heap ht 1 _ rfl
  clear hs ht
  obtain ⟨mm, hmm⟩ : ∃ mm, mxF (n) 0 = mm := ⟨_, rfl⟩
  have HMM : Hid (mxF (n) 0 = mm) := hmm
  unfold mxF at hmm
  go_wp2_with fail
  obtain ⟨m, hm⟩ : ∃ m, n = m := ⟨_, rfl⟩
  have hm0 : -2147483648 ≤ m ∧ m ≤ 2147483648 := by omega
  rw [hm]
  rw [hm] at HMM
  skip
  clear hm hn1 hn hmm
  obtain ⟨X, hX⟩ : ∃ X, capF (a * m) = X := ⟨_, rfl⟩
  obtain ⟨Y, hY⟩ : ∃ X, capF (b * m) = X := ⟨_, rfl⟩
  obtain ⟨M1, hM1⟩ : ∃ Z, mnF X Y = Z := ⟨_, rfl⟩
  obtain ⟨M2, hM2⟩ : ∃ Z, mxF X Y = Z := ⟨_, rfl⟩
  obtain ⟨a0, ha0⟩ : ∃ Z, mxF a 0 = Z := ⟨_, rfl⟩
  obtain ⟨b0, hb0⟩ : ∃ Z, mxF b 0 = Z := ⟨_, rfl⟩
  obtain ⟨a1, ha1⟩ : ∃ Z, mnF a0 mm = Z := ⟨_, rfl⟩
  obtain ⟨b1, hb1⟩ : ∃ Z, mnF b0 mm = Z := ⟨_, rfl⟩
  obtain ⟨J1, hJ1⟩ : ∃ Z, mnF a c = Z := ⟨_, rfl⟩
  obtain ⟨J2, hJ2⟩ : ∃ Z, mxF b d = Z := ⟨_, rfl⟩
  obtain ⟨P1, hP1⟩ : ∃ Z, capF (a + c) = Z := ⟨_, rfl⟩
  obtain ⟨P2, hP2⟩ : ∃ Z, capF (b + d) = Z := ⟨_, rfl⟩
  obtain ⟨P3, hP3⟩ : ∃ Z, capF (a - d) = Z := ⟨_, rfl⟩
  obtain ⟨P4, hP4⟩ : ∃ Z, capF (b - c) = Z := ⟨_, rfl⟩
  have HT1 := fun w => times_any a m w ⟨h1, by omega⟩ hm0
  have HT2 := fun w => times_any b m w ⟨by omega, h3⟩ hm0
  have HAdd := fun w => add_any a b c d w ⟨h1, by omega⟩ ⟨by omega, h3⟩ ⟨h4, by omega⟩ ⟨by omega, h6⟩
  have HSub := fun w => sub_any a b c d w ⟨h1, by omega⟩ ⟨by omega, h3⟩ ⟨h4, by omega⟩ ⟨by omega, h6⟩
  have HC1 := fun w => refcap_any (a + c) w
  have HC2 := fun w => refcap_any (b + d) w
  have HC3 := fun w => refcap_any (a - d) w
  have HC4 := fun w => refcap_any (b - c) w
  have HMul := fun w => mul_any a b m w ⟨h1, by omega⟩ ⟨by omega, h3⟩ hm0
  have HCl := fun w => clamp_any a b mm w
  have HJ := fun w => join_any a b c d w
  rw [show nearF a 0 mm = mnF (mxF a 0) mm from rfl, show nearF b 0 mm = mnF (mxF b 0) mm from rfl, ha0, hb0, ha1, hb1] at HCl
  rw [hJ1, hJ2] at HJ
  rw [← (mul_ends h2).1, ← (mul_ends h2).2, hX, hY, hM1, hM2] at HMul
  rw [hX] at HT1
  rw [hY] at HT2
  rw [hP1, hP2] at HAdd
  rw [hP3, hP4] at HSub
  rw [hP1] at HC1
  rw [hP2] at HC2
  rw [hP3] at HC3
  rw [hP4] at HC4
  have HT1' : Hid (∀ w, _) := HT1
  have HT2' : Hid (∀ w, _) := HT2
  have HAdd' : Hid (∀ w, _) := HAdd
  have HSub' : Hid (∀ w, _) := HSub
  have HC1' : Hid (∀ w, _) := HC1
  have HC2' : Hid (∀ w, _) := HC2
  have HC3' : Hid (∀ w, _) := HC3
  have HC4' : Hid (∀ w, _) := HC4
  have HMul' : Hid (∀ w, _) := HMul
  have HCl' : Hid (∀ w, _) := HCl
  have HJ' : Hid (∀ w, _) := HJ
  clear HT1 HT2 HAdd HSub HC1 HC2 HC3 HC4 HMul HCl HJ hX hY hP1 hP2 hP3 hP4
  have hw1 : IntKind.i64.wrap (a + c) = a + c := IntWalk.i64_in _ (by omega)
  have hw2 : IntKind.i64.wrap (b + d) = b + d := IntWalk.i64_in _ (by omega)
  have hw3 : IntKind.i64.wrap (a - d) = a - d := IntWalk.i64_in _ (by omega)
  have hw4 : IntKind.i64.wrap (b - c) = b - c := IntWalk.i64_in _ (by omega)
  unfold mnF at hM1 ha1 hb1 hJ1
  unfold mxF at hM2 ha0 hb0 hJ2
  clear h1 h2 h3 h4 h5 h6 hm0 hp7 hp8 hne
  refine wp_region_held_drew (S := fun W => W.cell? ⟨p7, 0, none⟩ = some (.int .i64 a) ∧ W.cell? ⟨p7, 1, none⟩ = some (.int .i64 b) ∧ W.cell? ⟨p8, 0, none⟩ = some (.int .i64 c) ∧ W.cell? ⟨p8, 1, none⟩ = some (.int .i64 d)) (by kernel_rfl) (by exact ⟨s0, s1, t0, t1⟩) (fun hHeld => ?_)
  change wpAnyH _ _ _ _ _ 10 (Array.replicate 10 false) _ _
  refine wpAnyH_take (i := 0) (oi := _) (v := _) (by simp only [List.getElem?_toArray, List.getElem?_cons_zero]; rfl) (by kernel_rfl) (by kernel_rfl) (by kernel_rfl) (by exact fun _ _ _ h => h) (Or.inl ⟨by rfl, by intro w' hSw; (try dsimp only at hSw); first | (go_simp; done) | (go_simp; with_reducible rfl)⟩) hHeld ?_
  simp only [Act.put, List.setIfInBounds_toArray, List.set_cons_zero, List.set_cons_succ]
  refine wpAnyH_take (i := 1) (oi := _) (v := _) (by simp only [List.getElem?_toArray, List.getElem?_cons_succ, List.getElem?_cons_zero]; rfl) (by kernel_rfl) (by kernel_rfl) (by kernel_rfl) (by exact fun _ _ _ h => h) (Or.inl ⟨by rfl, by intro w' hSw; (try dsimp only at hSw); first | (go_simp; done) | (go_simp; with_reducible rfl)⟩) hHeld ?_
  simp only [Act.put, List.setIfInBounds_toArray, List.set_cons_zero, List.set_cons_succ]
  refine wpAnyH_take (i := 2) (oi := _) (v := _) (by simp only [List.getElem?_toArray, List.getElem?_cons_succ, List.getElem?_cons_zero]; rfl) (by kernel_rfl) (by kernel_rfl) (by kernel_rfl) (by exact fun _ _ _ h => h) (Or.inl ⟨by rfl, by intro w' hSw; (try dsimp only at hSw); first | (go_simp; done) | (go_simp; with_reducible rfl)⟩) hHeld ?_
  simp only [Act.put, List.setIfInBounds_toArray, List.set_cons_zero, List.set_cons_succ]
  refine wpAnyH_take (i := 4) (oi := _) (v := _) (by simp only [List.getElem?_toArray, List.getElem?_cons_succ, List.getElem?_cons_zero]; rfl) (by kernel_rfl) (by kernel_rfl) (by kernel_rfl) (by exact fun _ _ _ h => h) (Or.inl ⟨by rfl, by intro w' hSw; (try dsimp only at hSw); first | (go_simp; done) | (go_simp; with_reducible rfl)⟩) hHeld ?_
  simp only [Act.put, List.setIfInBounds_toArray, List.set_cons_zero, List.set_cons_succ]
  refine wpAnyH_take (i := 5) (oi := _) (v := _) (by simp only [List.getElem?_toArray, List.getElem?_cons_succ, List.getElem?_cons_zero]; rfl) (by kernel_rfl) (by kernel_rfl) (by kernel_rfl) (by exact fun _ _ _ h => h) (Or.inl ⟨by rfl, by intro w' hSw; (try dsimp only at hSw); first | (go_simp; done) | (go_simp; with_reducible rfl)⟩) hHeld ?_
  simp only [Act.put, List.setIfInBounds_toArray, List.set_cons_zero, List.set_cons_succ]
  refine wpAnyH_take (i := 6) (oi := _) (v := _) (by simp only [List.getElem?_toArray, List.getElem?_cons_succ, List.getElem?_cons_zero]; rfl) (by kernel_rfl) (by kernel_rfl) (by kernel_rfl) (by exact fun _ _ _ h => h) (Or.inl ⟨by rfl, by intro w' hSw; (try dsimp only at hSw); first | (go_simp; done) | (go_simp; with_reducible rfl)⟩) hHeld ?_
  simp only [Act.put, List.setIfInBounds_toArray, List.set_cons_zero, List.set_cons_succ]
  refine wpAnyH_ready (rs := [3]) (by kernel_rfl) (by simp) ?_
  refine AllReadyH.cons rfl (fun K hK => ?_) AllReadyH.nil
  go_simp
  go_wp2_with fail
  refine (HT1'.out _).mono ?_
  rintro r w3 ⟨rfl, hw3⟩
  have HB3 : Hid (Below w.heap.size w w3) := by rw [hw3]; first | exact HB2.out.drew | exact HB2.out
  refine hK.out _ _ (by rw [hw3]; exact hHeld) (fun hHeld => ?_)
  clear hK K hw3
  refine wpAnyH_ready (rs := [7]) (by kernel_rfl) (by simp) ?_
  refine AllReadyH.cons rfl (fun K hK => ?_) AllReadyH.nil
  go_simp
  go_wp2_with fail
  refine (HT2'.out _).mono ?_
  rintro r w4 ⟨rfl, hw4⟩
  have HB4 : Hid (Below w.heap.size w w4) := by rw [hw4]; first | exact HB3.out.drew | exact HB3.out
  refine hK.out _ _ (by rw [hw4]; exact hHeld) (fun hHeld => ?_)
  clear hK K hw4
  refine wpAnyH_take (i := 8) (oi := _) (v := _) (by simp only [List.getElem?_toArray, List.getElem?_cons_succ, List.getElem?_cons_zero]; rfl) (by kernel_rfl) (by kernel_rfl) (by kernel_rfl) (by exact fun _ _ _ h => h) (Or.inl ⟨by rfl, by intro w' hSw; (try dsimp only at hSw); first | (go_simp; done) | (go_simp; with_reducible rfl)⟩) hHeld ?_
  simp only [Act.put, List.setIfInBounds_toArray, List.set_cons_zero, List.set_cons_succ]
  refine wpAnyH_take (i := 9) (oi := _) (v := _) (by simp only [List.getElem?_toArray, List.getElem?_cons_succ, List.getElem?_cons_zero]; rfl) (by kernel_rfl) (by kernel_rfl) (by kernel_rfl) (by exact fun _ _ _ h => h) (Or.inl ⟨by rfl, by intro w' hSw; (try dsimp only at hSw); first | (go_simp; done) | (go_simp; with_reducible rfl)⟩) hHeld ?_
  simp only [Act.put, List.setIfInBounds_toArray, List.set_cons_zero, List.set_cons_succ]
  refine wpAnyH_done (by kernel_rfl) ?_ _
  have hH4 := hHeld
  clear hHeld s0 s1 t0 t1
  go_wp2_with fail
  refine least_reg9 w w4 p7 p8 a b c d m mm X Y M1 M2 a0 b0 a1 b1 J1 J2 P1 P2 P3 P4 (by intro _ _ d _ _ h; cases d <;> exact h) HB4 hH4 HAdd' HSub' HMul' HCl' HJ' HC1' hw1 HC2' hw2 HC3' hw3 HC4' hw4 hM1 hM2 ha0 hb0 ha1 hb1 hJ1 hJ2 (fun w5 hb5 _ => ?_)
  go_wp2
  go_ret
  exact ⟨rfl, hb5⟩

theorem least_lo (x y z u n : Int) (w : World) (hn : n < -2147483648) :
    Calls Try.prog 3 #[.agg #[.int .i64 x, .int .i64 y], .agg #[.int .i64 z, .int .i64 u], .int .i64 n] w fun r w' => r = .returned (.bool true) ∧ Below w.heap.size w w' := by
  obtain ⟨h1, h2, h3⟩ := span_le x y
  obtain ⟨h4, h5, h6⟩ := span_le z u
  have HMa : Hid (∀ w, _) := fun w => made_any x y w
  have HMb : Hid (∀ w, _) := fun w => made_any z u w
  generalize mnF (capF x) (capF y) = a at *
  generalize mxF (capF x) (capF y) = b at *
  generalize mnF (capF z) (capF u) = c at *
  generalize mxF (capF z) (capF u) = d at *
  obtain ⟨w0, hw0⟩ : ∃ w0, w0 = (w.alloc (.cells #[.int .i64 x, .int .i64 y] 22)).alloc (.cells #[.int .i64 z, .int .i64 u] 22) := ⟨_, rfl⟩
  have HB0 : Hid (Below w.heap.size w w0) := by rw [hw0]; exact ((Below.refl _ _).alloc (Nat.le_refl _) _).alloc (by simp) _
  have hA0 : w0.heap[w.heap.size]? = some (.cells #[.int .i64 x, .int .i64 y] 22 (0, 0)) := by rw [hw0, Below.heap_alloc _ _ _ (by simp)]; exact heap_alloc_new w _
  have hC0 : w0.heap[w.heap.size + 1]? = some (.cells #[.int .i64 z, .int .i64 u] 22 (0, 0)) := by
    have := heap_alloc_new (w.alloc (.cells #[.int .i64 x, .int .i64 y] 22)) (Obj.cells #[.int .i64 z, .int .i64 u] 22)
    rw [World.size_alloc, ← hw0] at this
    exact this
  have hn1 : decide (n < -2147483648) = true := decide_eq_true hn
  go_enter Try.func3, Try.ntmps3
  go_wp2_with fail
  rw [← hw0]
  clear hw0
  refine (speaks_any _).mono ?_
  rintro r w1 ⟨rfl, hb1⟩
  have HB1 : Hid (Below w.heap.size w w1) := HB0.out.trans (hb1.mono HB0.out.size)
  have hA1 := (hb1.block _ (lt_of_heap hA0)).trans hA0
  have hC1 := (hb1.block _ (lt_of_heap hC0)).trans hC0
  clear hb1 hA0 hC0 HB0
  go_wp2_with fail
  refine least_reg3 w1 w.heap.size x y z u a b c d hA1 hC1 HMa.out HMb.out (by intro _ _ d _ _ h; cases d <;> exact h) (fun p7 p8 w2 hb2 hp7 hp8 hne hs ht => ?_)
  clear hA1 hC1 HMa HMb
  have HB2 : Hid (Below w.heap.size w w2) := HB1.out.trans (hb2.mono HB1.out.size)
  clear hb2 HB1
  have s0 : w2.cell? ⟨p7, 0, none⟩ = some (.int .i64 a) := cell_of_heap hs 0 _ rfl
  have s1 : w2.cell? ⟨p7, 1, none⟩ = some (.int .i64 b) := cell_of_heap hs 1 _ rfl
  have t0 : w2.cell? ⟨p8, 0, none⟩ = some (.int .i64 c) := cell_of_heap ht 0 _ rfl
  have t1 : w2.cell? ⟨p8, 1, none⟩ = some (.int .i64 d) := cell_of_heap ht 1 _ rfl
  clear hs ht
  obtain ⟨mm, hmm⟩ : ∃ mm, mxF (n.tmod 2147483648) 0 = mm := ⟨_, rfl⟩
  have HMM : Hid (mxF (n.tmod 2147483648) 0 = mm) := hmm
  unfold mxF at hmm
  go_wp2_with fail
  obtain ⟨m, hm⟩ : ∃ m, n.tmod 2147483648 = m := ⟨_, rfl⟩
  have hm0 : -2147483648 ≤ m ∧ m ≤ 2147483648 := by have a1 := Int.lt_tmod_of_pos n (show (0 : Int) < 2147483648 by decide); have a2 := Int.tmod_lt_of_pos n (show (0 : Int) < 2147483648 by decide); omega
  rw [hm]
  rw [hm] at HMM
  skip
  clear hm hn1 hn hmm
  obtain ⟨X, hX⟩ : ∃ X, capF (a * m) = X := ⟨_, rfl⟩
  obtain ⟨Y, hY⟩ : ∃ X, capF (b * m) = X := ⟨_, rfl⟩
  obtain ⟨M1, hM1⟩ : ∃ Z, mnF X Y = Z := ⟨_, rfl⟩
  obtain ⟨M2, hM2⟩ : ∃ Z, mxF X Y = Z := ⟨_, rfl⟩
  obtain ⟨a0, ha0⟩ : ∃ Z, mxF a 0 = Z := ⟨_, rfl⟩
  obtain ⟨b0, hb0⟩ : ∃ Z, mxF b 0 = Z := ⟨_, rfl⟩
  obtain ⟨a1, ha1⟩ : ∃ Z, mnF a0 mm = Z := ⟨_, rfl⟩
  obtain ⟨b1, hb1⟩ : ∃ Z, mnF b0 mm = Z := ⟨_, rfl⟩
  obtain ⟨J1, hJ1⟩ : ∃ Z, mnF a c = Z := ⟨_, rfl⟩
  obtain ⟨J2, hJ2⟩ : ∃ Z, mxF b d = Z := ⟨_, rfl⟩
  obtain ⟨P1, hP1⟩ : ∃ Z, capF (a + c) = Z := ⟨_, rfl⟩
  obtain ⟨P2, hP2⟩ : ∃ Z, capF (b + d) = Z := ⟨_, rfl⟩
  obtain ⟨P3, hP3⟩ : ∃ Z, capF (a - d) = Z := ⟨_, rfl⟩
  obtain ⟨P4, hP4⟩ : ∃ Z, capF (b - c) = Z := ⟨_, rfl⟩
  have HT1 := fun w => times_any a m w ⟨h1, by omega⟩ hm0
  have HT2 := fun w => times_any b m w ⟨by omega, h3⟩ hm0
  have HAdd := fun w => add_any a b c d w ⟨h1, by omega⟩ ⟨by omega, h3⟩ ⟨h4, by omega⟩ ⟨by omega, h6⟩
  have HSub := fun w => sub_any a b c d w ⟨h1, by omega⟩ ⟨by omega, h3⟩ ⟨h4, by omega⟩ ⟨by omega, h6⟩
  have HC1 := fun w => refcap_any (a + c) w
  have HC2 := fun w => refcap_any (b + d) w
  have HC3 := fun w => refcap_any (a - d) w
  have HC4 := fun w => refcap_any (b - c) w
  have HMul := fun w => mul_any a b m w ⟨h1, by omega⟩ ⟨by omega, h3⟩ hm0
  have HCl := fun w => clamp_any a b mm w
  have HJ := fun w => join_any a b c d w
  rw [show nearF a 0 mm = mnF (mxF a 0) mm from rfl, show nearF b 0 mm = mnF (mxF b 0) mm from rfl, ha0, hb0, ha1, hb1] at HCl
  rw [hJ1, hJ2] at HJ
  rw [← (mul_ends h2).1, ← (mul_ends h2).2, hX, hY, hM1, hM2] at HMul
  rw [hX] at HT1
  rw [hY] at HT2
  rw [hP1, hP2] at HAdd
  rw [hP3, hP4] at HSub
  rw [hP1] at HC1
  rw [hP2] at HC2
  rw [hP3] at HC3
  rw [hP4] at HC4
  have HT1' : Hid (∀ w, _) := HT1
  have HT2' : Hid (∀ w, _) := HT2
  have HAdd' : Hid (∀ w, _) := HAdd
  have HSub' : Hid (∀ w, _) := HSub
  have HC1' : Hid (∀ w, _) := HC1
  have HC2' : Hid (∀ w, _) := HC2
  have HC3' : Hid (∀ w, _) := HC3
  have HC4' : Hid (∀ w, _) := HC4
  have HMul' : Hid (∀ w, _) := HMul
  have HCl' : Hid (∀ w, _) := HCl
  have HJ' : Hid (∀ w, _) := HJ
  clear HT1 HT2 HAdd HSub HC1 HC2 HC3 HC4 HMul HCl HJ hX hY hP1 hP2 hP3 hP4
  have hw1 : IntKind.i64.wrap (a + c) = a + c := IntWalk.i64_in _ (by omega)
  have hw2 : IntKind.i64.wrap (b + d) = b + d := IntWalk.i64_in _ (by omega)
  have hw3 : IntKind.i64.wrap (a - d) = a - d := IntWalk.i64_in _ (by omega)
  have hw4 : IntKind.i64.wrap (b - c) = b - c := IntWalk.i64_in _ (by omega)
  unfold mnF at hM1 ha1 hb1 hJ1
  unfold mxF at hM2 ha0 hb0 hJ2
  clear h1 h2 h3 h4 h5 h6 hm0 hp7 hp8 hne
  refine wp_region_held_drew (S := fun W => W.cell? ⟨p7, 0, none⟩ = some (.int .i64 a) ∧ W.cell? ⟨p7, 1, none⟩ = some (.int .i64 b) ∧ W.cell? ⟨p8, 0, none⟩ = some (.int .i64 c) ∧ W.cell? ⟨p8, 1, none⟩ = some (.int .i64 d)) (by kernel_rfl) (by exact ⟨s0, s1, t0, t1⟩) (fun hHeld => ?_)
  change wpAnyH _ _ _ _ _ 10 (Array.replicate 10 false) _ _
  refine wpAnyH_take (i := 0) (oi := _) (v := _) (by simp only [List.getElem?_toArray, List.getElem?_cons_zero]; rfl) (by kernel_rfl) (by kernel_rfl) (by kernel_rfl) (by exact fun _ _ _ h => h) (Or.inl ⟨by rfl, by intro w' hSw; (try dsimp only at hSw); first | (go_simp; done) | (go_simp; with_reducible rfl)⟩) hHeld ?_
  simp only [Act.put, List.setIfInBounds_toArray, List.set_cons_zero, List.set_cons_succ]
  refine wpAnyH_take (i := 1) (oi := _) (v := _) (by simp only [List.getElem?_toArray, List.getElem?_cons_succ, List.getElem?_cons_zero]; rfl) (by kernel_rfl) (by kernel_rfl) (by kernel_rfl) (by exact fun _ _ _ h => h) (Or.inl ⟨by rfl, by intro w' hSw; (try dsimp only at hSw); first | (go_simp; done) | (go_simp; with_reducible rfl)⟩) hHeld ?_
  simp only [Act.put, List.setIfInBounds_toArray, List.set_cons_zero, List.set_cons_succ]
  refine wpAnyH_take (i := 2) (oi := _) (v := _) (by simp only [List.getElem?_toArray, List.getElem?_cons_succ, List.getElem?_cons_zero]; rfl) (by kernel_rfl) (by kernel_rfl) (by kernel_rfl) (by exact fun _ _ _ h => h) (Or.inl ⟨by rfl, by intro w' hSw; (try dsimp only at hSw); first | (go_simp; done) | (go_simp; with_reducible rfl)⟩) hHeld ?_
  simp only [Act.put, List.setIfInBounds_toArray, List.set_cons_zero, List.set_cons_succ]
  refine wpAnyH_take (i := 4) (oi := _) (v := _) (by simp only [List.getElem?_toArray, List.getElem?_cons_succ, List.getElem?_cons_zero]; rfl) (by kernel_rfl) (by kernel_rfl) (by kernel_rfl) (by exact fun _ _ _ h => h) (Or.inl ⟨by rfl, by intro w' hSw; (try dsimp only at hSw); first | (go_simp; done) | (go_simp; with_reducible rfl)⟩) hHeld ?_
  simp only [Act.put, List.setIfInBounds_toArray, List.set_cons_zero, List.set_cons_succ]
  refine wpAnyH_take (i := 5) (oi := _) (v := _) (by simp only [List.getElem?_toArray, List.getElem?_cons_succ, List.getElem?_cons_zero]; rfl) (by kernel_rfl) (by kernel_rfl) (by kernel_rfl) (by exact fun _ _ _ h => h) (Or.inl ⟨by rfl, by intro w' hSw; (try dsimp only at hSw); first | (go_simp; done) | (go_simp; with_reducible rfl)⟩) hHeld ?_
  simp only [Act.put, List.setIfInBounds_toArray, List.set_cons_zero, List.set_cons_succ]
  refine wpAnyH_take (i := 6) (oi := _) (v := _) (by simp only [List.getElem?_toArray, List.getElem?_cons_succ, List.getElem?_cons_zero]; rfl) (by kernel_rfl) (by kernel_rfl) (by kernel_rfl) (by exact fun _ _ _ h => h) (Or.inl ⟨by rfl, by intro w' hSw; (try dsimp only at hSw); first | (go_simp; done) | (go_simp; with_reducible rfl)⟩) hHeld ?_
  simp only [Act.put, List.setIfInBounds_toArray, List.set_cons_zero, List.set_cons_succ]
  refine wpAnyH_ready (rs := [3]) (by kernel_rfl) (by simp) ?_
  refine AllReadyH.cons rfl (fun K hK => ?_) AllReadyH.nil
  go_simp
  go_wp2_with fail
  refine (HT1'.out _).mono ?_
  rintro r w3 ⟨rfl, hw3⟩
  have HB3 : Hid (Below w.heap.size w w3) := by rw [hw3]; first | exact HB2.out.drew | exact HB2.out
  refine hK.out _ _ (by rw [hw3]; exact hHeld) (fun hHeld => ?_)
  clear hK K hw3
  refine wpAnyH_ready (rs := [7]) (by kernel_rfl) (by simp) ?_
  refine AllReadyH.cons rfl (fun K hK => ?_) AllReadyH.nil
  go_simp
  go_wp2_with fail
  refine (HT2'.out _).mono ?_
  rintro r w4 ⟨rfl, hw4⟩
  have HB4 : Hid (Below w.heap.size w w4) := by rw [hw4]; first | exact HB3.out.drew | exact HB3.out
  refine hK.out _ _ (by rw [hw4]; exact hHeld) (fun hHeld => ?_)
  clear hK K hw4
  refine wpAnyH_take (i := 8) (oi := _) (v := _) (by simp only [List.getElem?_toArray, List.getElem?_cons_succ, List.getElem?_cons_zero]; rfl) (by kernel_rfl) (by kernel_rfl) (by kernel_rfl) (by exact fun _ _ _ h => h) (Or.inl ⟨by rfl, by intro w' hSw; (try dsimp only at hSw); first | (go_simp; done) | (go_simp; with_reducible rfl)⟩) hHeld ?_
  simp only [Act.put, List.setIfInBounds_toArray, List.set_cons_zero, List.set_cons_succ]
  refine wpAnyH_take (i := 9) (oi := _) (v := _) (by simp only [List.getElem?_toArray, List.getElem?_cons_succ, List.getElem?_cons_zero]; rfl) (by kernel_rfl) (by kernel_rfl) (by kernel_rfl) (by exact fun _ _ _ h => h) (Or.inl ⟨by rfl, by intro w' hSw; (try dsimp only at hSw); first | (go_simp; done) | (go_simp; with_reducible rfl)⟩) hHeld ?_
  simp only [Act.put, List.setIfInBounds_toArray, List.set_cons_zero, List.set_cons_succ]
  refine wpAnyH_done (by kernel_rfl) ?_ _
  have hH4 := hHeld
  clear hHeld s0 s1 t0 t1
  go_wp2_with fail
  refine least_reg9 w w4 p7 p8 a b c d m mm X Y M1 M2 a0 b0 a1 b1 J1 J2 P1 P2 P3 P4 (by intro _ _ d _ _ h; cases d <;> exact h) HB4 hH4 HAdd' HSub' HMul' HCl' HJ' HC1' hw1 HC2' hw2 HC3' hw3 HC4' hw4 hM1 hM2 ha0 hb0 ha1 hb1 hJ1 hJ2 (fun w5 hb5 _ => ?_)
  go_wp2
  go_ret
  exact ⟨rfl, hb5⟩

theorem least_hi (x y z u n : Int) (w : World) (hn : 2147483648 < n) :
    Calls Try.prog 3 #[.agg #[.int .i64 x, .int .i64 y], .agg #[.int .i64 z, .int .i64 u], .int .i64 n] w fun r w' => r = .returned (.bool true) ∧ Below w.heap.size w w' := by
  obtain ⟨h1, h2, h3⟩ := span_le x y
  obtain ⟨h4, h5, h6⟩ := span_le z u
  have HMa : Hid (∀ w, _) := fun w => made_any x y w
  have HMb : Hid (∀ w, _) := fun w => made_any z u w
  generalize mnF (capF x) (capF y) = a at *
  generalize mxF (capF x) (capF y) = b at *
  generalize mnF (capF z) (capF u) = c at *
  generalize mxF (capF z) (capF u) = d at *
  obtain ⟨w0, hw0⟩ : ∃ w0, w0 = (w.alloc (.cells #[.int .i64 x, .int .i64 y] 22)).alloc (.cells #[.int .i64 z, .int .i64 u] 22) := ⟨_, rfl⟩
  have HB0 : Hid (Below w.heap.size w w0) := by rw [hw0]; exact ((Below.refl _ _).alloc (Nat.le_refl _) _).alloc (by simp) _
  have hA0 : w0.heap[w.heap.size]? = some (.cells #[.int .i64 x, .int .i64 y] 22 (0, 0)) := by rw [hw0, Below.heap_alloc _ _ _ (by simp)]; exact heap_alloc_new w _
  have hC0 : w0.heap[w.heap.size + 1]? = some (.cells #[.int .i64 z, .int .i64 u] 22 (0, 0)) := by
    have := heap_alloc_new (w.alloc (.cells #[.int .i64 x, .int .i64 y] 22)) (Obj.cells #[.int .i64 z, .int .i64 u] 22)
    rw [World.size_alloc, ← hw0] at this
    exact this
  have hn1 : decide (n < -2147483648) = false := decide_eq_false (by omega)
  have hn2 : decide (2147483648 < n) = true := decide_eq_true hn
  go_enter Try.func3, Try.ntmps3
  go_wp2_with fail
  rw [← hw0]
  clear hw0
  refine (speaks_any _).mono ?_
  rintro r w1 ⟨rfl, hb1⟩
  have HB1 : Hid (Below w.heap.size w w1) := HB0.out.trans (hb1.mono HB0.out.size)
  have hA1 := (hb1.block _ (lt_of_heap hA0)).trans hA0
  have hC1 := (hb1.block _ (lt_of_heap hC0)).trans hC0
  clear hb1 hA0 hC0 HB0
  go_wp2_with fail
  refine least_reg3 w1 w.heap.size x y z u a b c d hA1 hC1 HMa.out HMb.out (by intro _ _ d _ _ h; cases d <;> exact h) (fun p7 p8 w2 hb2 hp7 hp8 hne hs ht => ?_)
  clear hA1 hC1 HMa HMb
  have HB2 : Hid (Below w.heap.size w w2) := HB1.out.trans (hb2.mono HB1.out.size)
  clear hb2 HB1
  have s0 : w2.cell? ⟨p7, 0, none⟩ = some (.int .i64 a) := cell_of_heap hs 0 _ rfl
  have s1 : w2.cell? ⟨p7, 1, none⟩ = some (.int .i64 b) := cell_of_heap hs 1 _ rfl
  have t0 : w2.cell? ⟨p8, 0, none⟩ = some (.int .i64 c) := cell_of_heap ht 0 _ rfl
  have t1 : w2.cell? ⟨p8, 1, none⟩ = some (.int .i64 d) := cell_of_heap ht 1 _ rfl
  clear hs ht
  obtain ⟨mm, hmm⟩ : ∃ mm, mxF (n % 2147483648) 0 = mm := ⟨_, rfl⟩
  have HMM : Hid (mxF (n % 2147483648) 0 = mm) := hmm
  unfold mxF at hmm
  go_wp2_with fail
  obtain ⟨m, hm⟩ : ∃ m, n % 2147483648 = m := ⟨_, rfl⟩
  have hm0 : -2147483648 ≤ m ∧ m ≤ 2147483648 := by omega
  rw [hm]
  rw [hm] at HMM
  have e0 : m = mm := by have := HMM.out; unfold mxF at this; split at this <;> omega
  subst e0
  clear hm hn1 hn hmm
  obtain ⟨X, hX⟩ : ∃ X, capF (a * m) = X := ⟨_, rfl⟩
  obtain ⟨Y, hY⟩ : ∃ X, capF (b * m) = X := ⟨_, rfl⟩
  obtain ⟨M1, hM1⟩ : ∃ Z, mnF X Y = Z := ⟨_, rfl⟩
  obtain ⟨M2, hM2⟩ : ∃ Z, mxF X Y = Z := ⟨_, rfl⟩
  obtain ⟨a0, ha0⟩ : ∃ Z, mxF a 0 = Z := ⟨_, rfl⟩
  obtain ⟨b0, hb0⟩ : ∃ Z, mxF b 0 = Z := ⟨_, rfl⟩
  obtain ⟨a1, ha1⟩ : ∃ Z, mnF a0 m = Z := ⟨_, rfl⟩
  obtain ⟨b1, hb1⟩ : ∃ Z, mnF b0 m = Z := ⟨_, rfl⟩
  obtain ⟨J1, hJ1⟩ : ∃ Z, mnF a c = Z := ⟨_, rfl⟩
  obtain ⟨J2, hJ2⟩ : ∃ Z, mxF b d = Z := ⟨_, rfl⟩
  obtain ⟨P1, hP1⟩ : ∃ Z, capF (a + c) = Z := ⟨_, rfl⟩
  obtain ⟨P2, hP2⟩ : ∃ Z, capF (b + d) = Z := ⟨_, rfl⟩
  obtain ⟨P3, hP3⟩ : ∃ Z, capF (a - d) = Z := ⟨_, rfl⟩
  obtain ⟨P4, hP4⟩ : ∃ Z, capF (b - c) = Z := ⟨_, rfl⟩
  have HT1 := fun w => times_any a m w ⟨h1, by omega⟩ hm0
  have HT2 := fun w => times_any b m w ⟨by omega, h3⟩ hm0
  have HAdd := fun w => add_any a b c d w ⟨h1, by omega⟩ ⟨by omega, h3⟩ ⟨h4, by omega⟩ ⟨by omega, h6⟩
  have HSub := fun w => sub_any a b c d w ⟨h1, by omega⟩ ⟨by omega, h3⟩ ⟨h4, by omega⟩ ⟨by omega, h6⟩
  have HC1 := fun w => refcap_any (a + c) w
  have HC2 := fun w => refcap_any (b + d) w
  have HC3 := fun w => refcap_any (a - d) w
  have HC4 := fun w => refcap_any (b - c) w
  have HMul := fun w => mul_any a b m w ⟨h1, by omega⟩ ⟨by omega, h3⟩ hm0
  have HCl := fun w => clamp_any a b m w
  have HJ := fun w => join_any a b c d w
  rw [show nearF a 0 m = mnF (mxF a 0) m from rfl, show nearF b 0 m = mnF (mxF b 0) m from rfl, ha0, hb0, ha1, hb1] at HCl
  rw [hJ1, hJ2] at HJ
  rw [← (mul_ends h2).1, ← (mul_ends h2).2, hX, hY, hM1, hM2] at HMul
  rw [hX] at HT1
  rw [hY] at HT2
  rw [hP1, hP2] at HAdd
  rw [hP3, hP4] at HSub
  rw [hP1] at HC1
  rw [hP2] at HC2
  rw [hP3] at HC3
  rw [hP4] at HC4
  have HT1' : Hid (∀ w, _) := HT1
  have HT2' : Hid (∀ w, _) := HT2
  have HAdd' : Hid (∀ w, _) := HAdd
  have HSub' : Hid (∀ w, _) := HSub
  have HC1' : Hid (∀ w, _) := HC1
  have HC2' : Hid (∀ w, _) := HC2
  have HC3' : Hid (∀ w, _) := HC3
  have HC4' : Hid (∀ w, _) := HC4
  have HMul' : Hid (∀ w, _) := HMul
  have HCl' : Hid (∀ w, _) := HCl
  have HJ' : Hid (∀ w, _) := HJ
  clear HT1 HT2 HAdd HSub HC1 HC2 HC3 HC4 HMul HCl HJ hX hY hP1 hP2 hP3 hP4
  have hw1 : IntKind.i64.wrap (a + c) = a + c := IntWalk.i64_in _ (by omega)
  have hw2 : IntKind.i64.wrap (b + d) = b + d := IntWalk.i64_in _ (by omega)
  have hw3 : IntKind.i64.wrap (a - d) = a - d := IntWalk.i64_in _ (by omega)
  have hw4 : IntKind.i64.wrap (b - c) = b - c := IntWalk.i64_in _ (by omega)
  unfold mnF at hM1 ha1 hb1 hJ1
  unfold mxF at hM2 ha0 hb0 hJ2
  clear h1 h2 h3 h4 h5 h6 hm0 hp7 hp8 hne
  refine wp_region_held_drew (S := fun W => W.cell? ⟨p7, 0, none⟩ = some (.int .i64 a) ∧ W.cell? ⟨p7, 1, none⟩ = some (.int .i64 b) ∧ W.cell? ⟨p8, 0, none⟩ = some (.int .i64 c) ∧ W.cell? ⟨p8, 1, none⟩ = some (.int .i64 d)) (by kernel_rfl) (by exact ⟨s0, s1, t0, t1⟩) (fun hHeld => ?_)
  change wpAnyH _ _ _ _ _ 10 (Array.replicate 10 false) _ _
  refine wpAnyH_take (i := 0) (oi := _) (v := _) (by simp only [List.getElem?_toArray, List.getElem?_cons_zero]; rfl) (by kernel_rfl) (by kernel_rfl) (by kernel_rfl) (by exact fun _ _ _ h => h) (Or.inl ⟨by rfl, by intro w' hSw; (try dsimp only at hSw); first | (go_simp; done) | (go_simp; with_reducible rfl)⟩) hHeld ?_
  simp only [Act.put, List.setIfInBounds_toArray, List.set_cons_zero, List.set_cons_succ]
  refine wpAnyH_take (i := 1) (oi := _) (v := _) (by simp only [List.getElem?_toArray, List.getElem?_cons_succ, List.getElem?_cons_zero]; rfl) (by kernel_rfl) (by kernel_rfl) (by kernel_rfl) (by exact fun _ _ _ h => h) (Or.inl ⟨by rfl, by intro w' hSw; (try dsimp only at hSw); first | (go_simp; done) | (go_simp; with_reducible rfl)⟩) hHeld ?_
  simp only [Act.put, List.setIfInBounds_toArray, List.set_cons_zero, List.set_cons_succ]
  refine wpAnyH_take (i := 2) (oi := _) (v := _) (by simp only [List.getElem?_toArray, List.getElem?_cons_succ, List.getElem?_cons_zero]; rfl) (by kernel_rfl) (by kernel_rfl) (by kernel_rfl) (by exact fun _ _ _ h => h) (Or.inl ⟨by rfl, by intro w' hSw; (try dsimp only at hSw); first | (go_simp; done) | (go_simp; with_reducible rfl)⟩) hHeld ?_
  simp only [Act.put, List.setIfInBounds_toArray, List.set_cons_zero, List.set_cons_succ]
  refine wpAnyH_take (i := 4) (oi := _) (v := _) (by simp only [List.getElem?_toArray, List.getElem?_cons_succ, List.getElem?_cons_zero]; rfl) (by kernel_rfl) (by kernel_rfl) (by kernel_rfl) (by exact fun _ _ _ h => h) (Or.inl ⟨by rfl, by intro w' hSw; (try dsimp only at hSw); first | (go_simp; done) | (go_simp; with_reducible rfl)⟩) hHeld ?_
  simp only [Act.put, List.setIfInBounds_toArray, List.set_cons_zero, List.set_cons_succ]
  refine wpAnyH_take (i := 5) (oi := _) (v := _) (by simp only [List.getElem?_toArray, List.getElem?_cons_succ, List.getElem?_cons_zero]; rfl) (by kernel_rfl) (by kernel_rfl) (by kernel_rfl) (by exact fun _ _ _ h => h) (Or.inl ⟨by rfl, by intro w' hSw; (try dsimp only at hSw); first | (go_simp; done) | (go_simp; with_reducible rfl)⟩) hHeld ?_
  simp only [Act.put, List.setIfInBounds_toArray, List.set_cons_zero, List.set_cons_succ]
  refine wpAnyH_take (i := 6) (oi := _) (v := _) (by simp only [List.getElem?_toArray, List.getElem?_cons_succ, List.getElem?_cons_zero]; rfl) (by kernel_rfl) (by kernel_rfl) (by kernel_rfl) (by exact fun _ _ _ h => h) (Or.inl ⟨by rfl, by intro w' hSw; (try dsimp only at hSw); first | (go_simp; done) | (go_simp; with_reducible rfl)⟩) hHeld ?_
  simp only [Act.put, List.setIfInBounds_toArray, List.set_cons_zero, List.set_cons_succ]
  refine wpAnyH_ready (rs := [3]) (by kernel_rfl) (by simp) ?_
  refine AllReadyH.cons rfl (fun K hK => ?_) AllReadyH.nil
  go_simp
  go_wp2_with fail
  refine (HT1'.out _).mono ?_
  rintro r w3 ⟨rfl, hw3⟩
  have HB3 : Hid (Below w.heap.size w w3) := by rw [hw3]; first | exact HB2.out.drew | exact HB2.out
  refine hK.out _ _ (by rw [hw3]; exact hHeld) (fun hHeld => ?_)
  clear hK K hw3
  refine wpAnyH_ready (rs := [7]) (by kernel_rfl) (by simp) ?_
  refine AllReadyH.cons rfl (fun K hK => ?_) AllReadyH.nil
  go_simp
  go_wp2_with fail
  refine (HT2'.out _).mono ?_
  rintro r w4 ⟨rfl, hw4⟩
  have HB4 : Hid (Below w.heap.size w w4) := by rw [hw4]; first | exact HB3.out.drew | exact HB3.out
  refine hK.out _ _ (by rw [hw4]; exact hHeld) (fun hHeld => ?_)
  clear hK K hw4
  refine wpAnyH_take (i := 8) (oi := _) (v := _) (by simp only [List.getElem?_toArray, List.getElem?_cons_succ, List.getElem?_cons_zero]; rfl) (by kernel_rfl) (by kernel_rfl) (by kernel_rfl) (by exact fun _ _ _ h => h) (Or.inl ⟨by rfl, by intro w' hSw; (try dsimp only at hSw); first | (go_simp; done) | (go_simp; with_reducible rfl)⟩) hHeld ?_
  simp only [Act.put, List.setIfInBounds_toArray, List.set_cons_zero, List.set_cons_succ]
  refine wpAnyH_take (i := 9) (oi := _) (v := _) (by simp only [List.getElem?_toArray, List.getElem?_cons_succ, List.getElem?_cons_zero]; rfl) (by kernel_rfl) (by kernel_rfl) (by kernel_rfl) (by exact fun _ _ _ h => h) (Or.inl ⟨by rfl, by intro w' hSw; (try dsimp only at hSw); first | (go_simp; done) | (go_simp; with_reducible rfl)⟩) hHeld ?_
  simp only [Act.put, List.setIfInBounds_toArray, List.set_cons_zero, List.set_cons_succ]
  refine wpAnyH_done (by kernel_rfl) ?_ _
  have hH4 := hHeld
  clear hHeld s0 s1 t0 t1
  go_wp2_with fail
  refine least_reg9 w w4 p7 p8 a b c d m m X Y M1 M2 a0 b0 a1 b1 J1 J2 P1 P2 P3 P4 (by intro _ _ d _ _ h; cases d <;> exact h) HB4 hH4 HAdd' HSub' HMul' HCl' HJ' HC1' hw1 HC2' hw2 HC3' hw3 HC4' hw4 hM1 hM2 ha0 hb0 ha1 hb1 hJ1 hJ2 (fun w5 hb5 _ => ?_)
  go_wp2
  go_ret
  exact ⟨rfl, hb5⟩

theorem spanLeast_calls (x y z u n : Int) (w : World) (_ : (Lit.int .i64 n).wf = true) :
    Calls Try.prog 3 #[.agg #[.int .i64 x, .int .i64 y], .agg #[.int .i64 z, .int .i64 u], .int .i64 n] w fun r w' => r = .returned (.bool true) ∧ Below w.heap.size w w' := by
  by_cases h1 : n < -2147483648
  · exact least_lo x y z u n w h1
  · by_cases h2 : 2147483648 < n
    · exact least_hi x y z u n w h2
    · exact least_in x y z u n w ⟨by omega, by omega⟩

end Go.Proofs.Ytgfbcekmnpdoeab.Sn
