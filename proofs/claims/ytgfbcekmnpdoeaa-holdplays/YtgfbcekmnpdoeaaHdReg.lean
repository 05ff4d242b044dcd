/-
  The law's play: a copy of those inside, and one ticket more, in whatever order it is laid. No condition.
-/
import Derived.Test.YtgfbcekmnpdoeaaHdPl0
import Derived.Test.YtgfbcekmnpdoeaaRgL
namespace Go.Proofs.Ytgfbcekmnpdoeaa.Hd
open Go.ChangeShapes Go.WideShapes Go.ChangeAt Go.RowKit Go.Proofs.Fa
open Go.Proofs.Ytgfbcekmnpdoeaa.Hdi
open Go.Proofs.Ytgfbcekmnpdoeaa.Nv (Turn Grow lt_of_heap lt_of_cell cell_of_heap free_of_heap icells scells icells_one scells_one)

set_option maxRecDepth 100000
set_option maxHeartbeats 4000000

def SLe (D : Nat) (last : Int) (vi : Value) (L : Array Bool) (W : World) : Prop :=
  W.cell? ⟨D, 0, none⟩ = some (.int .i64 last) ∧ (L.getD 15 true = false → W.cell? ⟨D, 1, none⟩ = some vi)
theorem sle_ind {D : Nat} {last : Int} {vi : Value} {i : Nat} (h15 : i ≠ 15) : ∀ (L : Array Bool) (W : World), SLe D last vi (L.setIfInBounds i true) W → SLe D last vi L W := fun L W h =>
  ⟨h.1, fun e => h.2 (by rw [getD_set_ne true h15]; exact e)⟩
theorem sle_put {D : Nat} {last : Int} {vi : Value} {i : Nat} (h15 : i ≠ 15) {L : Array Bool} {W : World} (h : SLe D last vi L W) : SLe D last vi (L.setIfInBounds i true) W :=
  ⟨h.1, fun e => h.2 (by rw [getD_set_ne true h15] at e; exact e)⟩
theorem sle_all {D : Nat} {last : Int} {vi vl : Value} {L : Array Bool} {W : World} (h : W.heap[D]? = some (.cells #[.int .i64 last, vi, vl] 32 (0, 0))) : SLe D last vi L W :=
  ⟨cell_of_heap h 0 _ rfl, fun _ => cell_of_heap h 1 _ rfl⟩
theorem near_ne {W : World} {p q g : Nat} {v1 : Value} (hpq : p ≠ q) (hq : q < W.heap.size) (hn : Near W (.slice (some ⟨p, 0, none⟩) 0 0) v1) (hg : v1.ownBlock = some g) : g ≠ q := by
  rcases hn with h | ⟨k, h, hk⟩
  · rw [h] at hg
    intro e
    exact hpq ((Option.some.inj hg).trans e)
  · rw [h] at hg
    have := Option.some.inj hg
    omega
theorem tat_lt {W : World} {q : Nat} {x : Int} (hx : TAt W (.slice (some ⟨q, 0, none⟩) 1 1) [x]) : q < W.heap.size := by
  rcases hx with ⟨h, _⟩ | ⟨g, _, _, h, _, _, h4, _⟩
  · cases h
  · injection h with h
    injection h with h
    injection h with h
    omega
theorem TAt.grown {W W' : World} {v u : Value} {l : List Int} (h : TAt W v l) (hg : W.grownBy W' u.ownBlock) (hne : ∀ g, v.ownBlock = some g → u.ownBlock ≠ some g) : TAt W' v l := by
  rcases h with h | ⟨g, off, cap, rfl, h1, h2, h3, h4⟩
  · exact .inl h
  · have ht := Turn.grown hg (S := fun k => u.ownBlock = some k) (fun g e => e)
    exact .inr ⟨g, off, cap, rfl, h1, h2, Nat.lt_of_lt_of_le h3 ht.size, fun i hi => (World.cell?_of_block (ht.block g h3 (hne g rfl))).trans (h4 i hi)⟩

theorem reg15 {Q : Exit → Act → World → Prop} (D : Nat) (W0 : World) (last : Int) (ins : List Int) (va : Option Addr) (vc : Nat) (vl : Value) {x0 x1 x2 x3 x5 x6 x7 x8 x9 x10 x11 x12 x13 x14 x15 x16 x17 x18 x19 x20 x21 x22 x23 x24 x25 x26 x27 x28 x29 x30 x31 x32 x33 x34 x35 x36 x37 x38 x39 x40 x41 x42 x43 x44 x45 x46 x47 x48 x49 x50 x51 x52 x53 x54 x55 x56 x57 x58 x59 x60 x61 x62 x63 x64 x65 x66 x67 x68 x69 x70 x71 x72 x73 x74 x75 x76 x77 x78 x79 x80 x81 x82 x83 x84 x85 x86 x87 x88 x89 x90 x91 x92 x93 x94 x95 x96 x97 x98 x99 x100 x101 x102 x103 x104 x105 x106 x107 x108 x109 x110 x111 x112 x113 x114 x115 x116 x117 x118 x119 x120 x121 x122 x123 x124 x125 x126 x127 x128 x129 x130 x131 x132 x133 x134 x135 x136 x137 : Value}
    (hQp : ∀ (c : List PanicEntry) (a : Act) (d : Option Tmp) (v : Value) (w : World), Q (.panic c) (a.put d v) w → Q (.panic c) a w)
    (hm : W0.heap[D]? = some (.cells #[.int .i64 last, .slice va ins.length vc, vl] 32 (0, 0))) (hi : TRow W0 0 (.slice va ins.length vc) ins) (hl : ins.length ≤ 1000)
    (hfin : ∀ (p q : Nat) (a1 : Option Addr) (c1 : Nat) (a2 : Option Addr) (c2 : Nat) (W : World), W.heap[D]? = some (.cells #[.int .i64 last, .slice a2 (ins.length + 1) c2, vl] 32 (0, 0)) → TRow W W0.heap.size (.slice a2 (ins.length + 1) c2) (ins ++ [last]) → Turn (fun k => k = D) W0 W → Q .normal ⟨#[x0, x1, x2, x3, .pointer (some ⟨D, 0, none⟩), x5, x6, x7, x8, x9, x10, x11, x12, x13, x14, x15, x16, x17, x18, x19, x20, x21, x22, x23, x24, x25, x26, x27, x28, x29, x30, x31, x32, x33, x34, x35, x36, x37, x38, x39, x40, x41, x42, x43, x44, x45, x46, x47, x48, x49, x50, x51, x52, x53, x54, x55, x56, x57, .pointer (some ⟨D, 0, none⟩), .slice (some ⟨p, 0, none⟩) 0 0, .pointer (some ⟨D, 0, none⟩), .pointer (some ⟨D, 0, none⟩), .pointer (some ⟨D, 1, none⟩), .slice va ins.length vc, .slice a1 ins.length c1, .pointer (some ⟨D, 0, none⟩), .pointer (some ⟨D, 0, none⟩), .pointer (some ⟨D, 0, none⟩), .int .i64 last, .slice (some ⟨q, 0, none⟩) 1 1, .slice a2 (ins.length + 1) c2, .pointer (some ⟨D, 0, none⟩), .pointer (some ⟨D, 1, none⟩), x73, x74, x75, x76, x77, x78, x79, x80, x81, x82, x83, x84, x85, x86, x87, x88, x89, x90, x91, x92, x93, x94, x95, x96, x97, x98, x99, x100, x101, x102, x103, x104, x105, x106, x107, x108, x109, x110, x111, x112, x113, x114, x115, x116, x117, x118, x119, x120, x121, x122, x123, x124, x125, x126, x127, x128, x129, x130, x131, x132, x133, x134, x135, x136, x137], []⟩ W) :
    (Code.region 15 #[{ dst := some 58, op := Op.move (Operand.tmp 4), type := 28, pos := "law.go:52", after := #[], guard := none }, { dst := some 59, op := Op.buildSlice 29 0 #[], type := 29, pos := "law.go:52", after := #[], guard := none }, { dst := some 60, op := Op.move (Operand.tmp 4), type := 28, pos := "law.go:52", after := #[], guard := none }, { dst := some 61, op := Op.nilCheck (Operand.tmp 60), type := 0, pos := "law.go:52", after := #[{ on := 2, ground := Ground.data }], guard := none }, { dst := some 62, op := Op.fieldAddr 32 (Operand.tmp 61) 1, type := 0, pos := "law.go:52", after := #[{ on := 3, ground := Ground.data }], guard := none }, { dst := some 63, op := Op.load 29 (Operand.tmp 62), type := 29, pos := "law.go:52", after := #[{ on := 4, ground := Ground.data }], guard := none }, { dst := some 64, op := Op.call { callee := Callee.builtin Builtin.append, args := #[Operand.tmp 59, Operand.tmp 63], argTypes := #[29, 29] }, type := 29, pos := "law.go:52", after := #[{ on := 1, ground := Ground.data }, { on := 5, ground := Ground.data }], guard := none }, { dst := some 65, op := Op.move (Operand.tmp 4), type := 28, pos := "law.go:52", after := #[], guard := none }, { dst := some 66, op := Op.nilCheck (Operand.tmp 65), type := 0, pos := "law.go:52", after := #[{ on := 7, ground := Ground.data }], guard := none }, { dst := some 67, op := Op.fieldAddr 32 (Operand.tmp 66) 0, type := 0, pos := "law.go:52", after := #[{ on := 8, ground := Ground.data }], guard := none }, { dst := some 68, op := Op.load 3 (Operand.tmp 67), type := 3, pos := "law.go:52", after := #[{ on := 9, ground := Ground.data }], guard := none }, { dst := some 69, op := Op.buildSlice 29 1 #[(0, Operand.tmp 68)], type := 29, pos := "law.go:52", after := #[{ on := 10, ground := Ground.data }], guard := none }, { dst := some 70, op := Op.call { callee := Callee.builtin Builtin.append, args := #[Operand.tmp 64, Operand.tmp 69], argTypes := #[29, 29] }, type := 29, pos := "law.go:52", after := #[{ on := 6, ground := Ground.data }, { on := 11, ground := Ground.data }, { on := 6, ground := Ground.chain }], guard := none }, { dst := some 71, op := Op.nilCheck (Operand.tmp 58), type := 0, pos := "law.go:52", after := #[{ on := 0, ground := Ground.data }, { on := 0, ground := Ground.phase }, { on := 1, ground := Ground.phase }, { on := 2, ground := Ground.phase }, { on := 3, ground := Ground.phase }, { on := 4, ground := Ground.phase }, { on := 5, ground := Ground.phase }, { on := 6, ground := Ground.phase }, { on := 7, ground := Ground.phase }, { on := 8, ground := Ground.phase }, { on := 9, ground := Ground.phase }, { on := 10, ground := Ground.phase }, { on := 11, ground := Ground.phase }, { on := 12, ground := Ground.phase }], guard := none }, { dst := some 72, op := Op.fieldAddr 32 (Operand.tmp 71) 1, type := 0, pos := "law.go:52", after := #[{ on := 13, ground := Ground.data }, { on := 0, ground := Ground.phase }, { on := 1, ground := Ground.phase }, { on := 2, ground := Ground.phase }, { on := 3, ground := Ground.phase }, { on := 4, ground := Ground.phase }, { on := 5, ground := Ground.phase }, { on := 6, ground := Ground.phase }, { on := 7, ground := Ground.phase }, { on := 8, ground := Ground.phase }, { on := 9, ground := Ground.phase }, { on := 10, ground := Ground.phase }, { on := 11, ground := Ground.phase }, { on := 12, ground := Ground.phase }], guard := none }, { dst := none, op := Op.store 29 (Operand.tmp 72) (Operand.tmp 70), type := 0, pos := "law.go:52", after := #[{ on := 14, ground := Ground.data }, { on := 12, ground := Ground.data }, { on := 12, ground := Ground.chain }, { on := 0, ground := Ground.phase }, { on := 1, ground := Ground.phase }, { on := 2, ground := Ground.phase }, { on := 3, ground := Ground.phase }, { on := 4, ground := Ground.phase }, { on := 5, ground := Ground.phase }, { on := 6, ground := Ground.phase }, { on := 7, ground := Ground.phase }, { on := 8, ground := Ground.phase }, { on := 9, ground := Ground.phase }, { on := 10, ground := Ground.phase }, { on := 11, ground := Ground.phase }, { on := 12, ground := Ground.phase }], guard := none }] true).wp Try.prog Q ⟨#[x0, x1, x2, x3, .pointer (some ⟨D, 0, none⟩), x5, x6, x7, x8, x9, x10, x11, x12, x13, x14, x15, x16, x17, x18, x19, x20, x21, x22, x23, x24, x25, x26, x27, x28, x29, x30, x31, x32, x33, x34, x35, x36, x37, x38, x39, x40, x41, x42, x43, x44, x45, x46, x47, x48, x49, x50, x51, x52, x53, x54, x55, x56, x57, x58, x59, x60, x61, x62, x63, x64, x65, x66, x67, x68, x69, x70, x71, x72, x73, x74, x75, x76, x77, x78, x79, x80, x81, x82, x83, x84, x85, x86, x87, x88, x89, x90, x91, x92, x93, x94, x95, x96, x97, x98, x99, x100, x101, x102, x103, x104, x105, x106, x107, x108, x109, x110, x111, x112, x113, x114, x115, x116, x117, x118, x119, x120, x121, x122, x123, x124, x125, x126, x127, x128, x129, x130, x131, x132, x133, x134, x135, x136, x137], []⟩ W0 := by
  obtain ⟨ops, hops⟩ : ∃ ops : Array Oper, ops = #[{ dst := some 58, op := Op.move (Operand.tmp 4), type := 28, pos := "law.go:52", after := #[], guard := none }, { dst := some 59, op := Op.buildSlice 29 0 #[], type := 29, pos := "law.go:52", after := #[], guard := none }, { dst := some 60, op := Op.move (Operand.tmp 4), type := 28, pos := "law.go:52", after := #[], guard := none }, { dst := some 61, op := Op.nilCheck (Operand.tmp 60), type := 0, pos := "law.go:52", after := #[{ on := 2, ground := Ground.data }], guard := none }, { dst := some 62, op := Op.fieldAddr 32 (Operand.tmp 61) 1, type := 0, pos := "law.go:52", after := #[{ on := 3, ground := Ground.data }], guard := none }, { dst := some 63, op := Op.load 29 (Operand.tmp 62), type := 29, pos := "law.go:52", after := #[{ on := 4, ground := Ground.data }], guard := none }, { dst := some 64, op := Op.call { callee := Callee.builtin Builtin.append, args := #[Operand.tmp 59, Operand.tmp 63], argTypes := #[29, 29] }, type := 29, pos := "law.go:52", after := #[{ on := 1, ground := Ground.data }, { on := 5, ground := Ground.data }], guard := none }, { dst := some 65, op := Op.move (Operand.tmp 4), type := 28, pos := "law.go:52", after := #[], guard := none }, { dst := some 66, op := Op.nilCheck (Operand.tmp 65), type := 0, pos := "law.go:52", after := #[{ on := 7, ground := Ground.data }], guard := none }, { dst := some 67, op := Op.fieldAddr 32 (Operand.tmp 66) 0, type := 0, pos := "law.go:52", after := #[{ on := 8, ground := Ground.data }], guard := none }, { dst := some 68, op := Op.load 3 (Operand.tmp 67), type := 3, pos := "law.go:52", after := #[{ on := 9, ground := Ground.data }], guard := none }, { dst := some 69, op := Op.buildSlice 29 1 #[(0, Operand.tmp 68)], type := 29, pos := "law.go:52", after := #[{ on := 10, ground := Ground.data }], guard := none }, { dst := some 70, op := Op.call { callee := Callee.builtin Builtin.append, args := #[Operand.tmp 64, Operand.tmp 69], argTypes := #[29, 29] }, type := 29, pos := "law.go:52", after := #[{ on := 6, ground := Ground.data }, { on := 11, ground := Ground.data }, { on := 6, ground := Ground.chain }], guard := none }, { dst := some 71, op := Op.nilCheck (Operand.tmp 58), type := 0, pos := "law.go:52", after := #[{ on := 0, ground := Ground.data }, { on := 0, ground := Ground.phase }, { on := 1, ground := Ground.phase }, { on := 2, ground := Ground.phase }, { on := 3, ground := Ground.phase }, { on := 4, ground := Ground.phase }, { on := 5, ground := Ground.phase }, { on := 6, ground := Ground.phase }, { on := 7, ground := Ground.phase }, { on := 8, ground := Ground.phase }, { on := 9, ground := Ground.phase }, { on := 10, ground := Ground.phase }, { on := 11, ground := Ground.phase }, { on := 12, ground := Ground.phase }], guard := none }, { dst := some 72, op := Op.fieldAddr 32 (Operand.tmp 71) 1, type := 0, pos := "law.go:52", after := #[{ on := 13, ground := Ground.data }, { on := 0, ground := Ground.phase }, { on := 1, ground := Ground.phase }, { on := 2, ground := Ground.phase }, { on := 3, ground := Ground.phase }, { on := 4, ground := Ground.phase }, { on := 5, ground := Ground.phase }, { on := 6, ground := Ground.phase }, { on := 7, ground := Ground.phase }, { on := 8, ground := Ground.phase }, { on := 9, ground := Ground.phase }, { on := 10, ground := Ground.phase }, { on := 11, ground := Ground.phase }, { on := 12, ground := Ground.phase }], guard := none }, { dst := none, op := Op.store 29 (Operand.tmp 72) (Operand.tmp 70), type := 0, pos := "law.go:52", after := #[{ on := 14, ground := Ground.data }, { on := 12, ground := Ground.data }, { on := 12, ground := Ground.chain }, { on := 0, ground := Ground.phase }, { on := 1, ground := Ground.phase }, { on := 2, ground := Ground.phase }, { on := 3, ground := Ground.phase }, { on := 4, ground := Ground.phase }, { on := 5, ground := Ground.phase }, { on := 6, ground := Ground.phase }, { on := 7, ground := Ground.phase }, { on := 8, ground := Ground.phase }, { on := 9, ground := Ground.phase }, { on := 10, ground := Ground.phase }, { on := 11, ground := Ground.phase }, { on := 12, ground := Ground.phase }], guard := none }] := ⟨_, rfl⟩
  rw [← hops]
  have hDl := lt_of_heap hm
  have HM : Hid (∀ W, Below W0.heap.size W0 W → W.heap[D]? = some (.cells #[.int .i64 last, .slice va ins.length vc, vl] 32 (0, 0))) := fun W hb => (hb.block D hDl).trans hm
  have HI : Hid (∀ W, Below W0.heap.size W0 W → TAt W (.slice va ins.length vc) ins) := fun W hb => (hi.keep (fun g hg => hb.block g (hi.lt g hg))).at
  clear hm hi
  have st5 : ∀ (p q : Nat) (a1 : Option Addr) (c1 : Nat) (W : World), Below W0.heap.size W0 W → TRow W W0.heap.size (.slice a1 ins.length c1) ins → TAt W (.slice (some ⟨q, 0, none⟩) 1 1) [last] → (∀ g, (.slice a1 ins.length c1 : Value).ownBlock = some g → g ≠ q) → Rg.wpAnyL Try.prog .any ops Q (SLe D last (.slice va ins.length vc)) 4 #[true, true, true, true, true, true, true, true, true, true, true, true, false, false, false, false] ⟨#[x0, x1, x2, x3, .pointer (some ⟨D, 0, none⟩), x5, x6, x7, x8, x9, x10, x11, x12, x13, x14, x15, x16, x17, x18, x19, x20, x21, x22, x23, x24, x25, x26, x27, x28, x29, x30, x31, x32, x33, x34, x35, x36, x37, x38, x39, x40, x41, x42, x43, x44, x45, x46, x47, x48, x49, x50, x51, x52, x53, x54, x55, x56, x57, .pointer (some ⟨D, 0, none⟩), .slice (some ⟨p, 0, none⟩) 0 0, .pointer (some ⟨D, 0, none⟩), .pointer (some ⟨D, 0, none⟩), .pointer (some ⟨D, 1, none⟩), .slice va ins.length vc, .slice a1 ins.length c1, .pointer (some ⟨D, 0, none⟩), .pointer (some ⟨D, 0, none⟩), .pointer (some ⟨D, 0, none⟩), .int .i64 last, .slice (some ⟨q, 0, none⟩) 1 1, x70, x71, x72, x73, x74, x75, x76, x77, x78, x79, x80, x81, x82, x83, x84, x85, x86, x87, x88, x89, x90, x91, x92, x93, x94, x95, x96, x97, x98, x99, x100, x101, x102, x103, x104, x105, x106, x107, x108, x109, x110, x111, x112, x113, x114, x115, x116, x117, x118, x119, x120, x121, x122, x123, x124, x125, x126, x127, x128, x129, x130, x131, x132, x133, x134, x135, x136, x137], []⟩ W := by
    intro  p q       a1       c1       W hb hr hx hn
    have HB : Hid (Below W0.heap.size W0 W) := hb
    have HMW := HM.out W hb
    clear hb
    subst hops
    obtain ⟨v2, W2, hrun, hr2, hg2, _⟩ := app_all hr HB.out.size (by omega) hx (by show 1 ≤ 100000; decide) 29
    obtain ⟨a2, c2, hv2⟩ := hr2.slice
    rw [List.length_append, List.length_singleton] at hv2
    subst hv2
    have HB2 : Hid (Below W0.heap.size W0 W2) := HB.out.grown hg2 HB.out.size (fun g e => hr.ge g e)
    have HM2 := HM.out W2 HB2.out
    refine Rg.wpAnyL_ready (rs := [12]) (by kernel_rfl) (by simp) ?_
    refine (Rg.AllReadyL.cons (o := _) (by simp only [List.getElem?_toArray, List.getElem?_cons_succ, List.getElem?_cons_zero]; rfl) (fun K hK => ?_) Rg.AllReadyL.nil)
    refine wpH_append (by rfl) rfl rfl rfl hrun ?_
    refine hK.out _ _ (sle_all HM2) (fun hHeld => ?_)
    clear hK K
    simp only [Act.put, List.setIfInBounds_toArray, List.set_cons_zero, List.set_cons_succ]
    refine Rg.wpAnyL_take (i := 13) (oi := _) (v := _) (fun _ => True) (by simp only [List.getElem?_toArray, List.getElem?_cons_succ, List.getElem?_cons_zero]; rfl) (by kernel_rfl) (by kernel_rfl) (by kernel_rfl) (by kernel_rfl) (by exact fun _ _ _ h => hQp _ _ _ _ _ h) (sle_ind (by decide)) (fun _ _ _ _ => trivial) (Or.inl ⟨by rfl, by intro w' hSw; (try dsimp only at hSw); first | (go_simp; done) | (go_simp; with_reducible rfl)⟩) hHeld (sle_put (by decide) hHeld) (fun hHeld => ?_)
    simp only [Act.put, List.setIfInBounds_toArray, List.set_cons_zero, List.set_cons_succ]
    refine Rg.wpAnyL_take (i := 14) (oi := _) (v := _) (fun _ => True) (by simp only [List.getElem?_toArray, List.getElem?_cons_succ, List.getElem?_cons_zero]; rfl) (by kernel_rfl) (by kernel_rfl) (by kernel_rfl) (by kernel_rfl) (by exact fun _ _ _ h => hQp _ _ _ _ _ h) (sle_ind (by decide)) (fun _ _ _ _ => trivial) (Or.inl ⟨by rfl, by intro w' hSw; (try dsimp only at hSw); first | (go_simp; done) | (go_simp; with_reducible rfl)⟩) hHeld (sle_put (by decide) hHeld) (fun hHeld => ?_)
    simp only [Act.put, List.setIfInBounds_toArray, List.set_cons_zero, List.set_cons_succ]
    refine Rg.wpAnyL_ready (rs := [15]) (by kernel_rfl) (by simp) ?_
    refine (Rg.AllReadyL.cons (o := _) (by simp only [List.getElem?_toArray, List.getElem?_cons_succ, List.getElem?_cons_zero]; rfl) (fun K hK => ?_) Rg.AllReadyL.nil)
    have y1 := cell_of_heap HM2 1 _ rfl
    have f1 := free_of_heap HM2 1
    go_simp
    go_wp2_with fail
    refine hK.out _ _ ⟨?_, fun e => absurd e (by decide)⟩ (fun hHeld => ?_)
    · rw [World.cell?_setCell_other _ _ _ _ (by intro h; simp only [Addr.mk.injEq] at h; omega)]; exact cell_of_heap HM2 0 _ rfl
    clear hK K y1 f1
    refine Rg.wpAnyL_done (by kernel_rfl) ?_ _
    refine hfin p q a1 c1 a2 c2 _ (heap_setCell_same W2 D 1 _ _ _ HM2) (hr2.keep (fun g hg => heap_setCell_other W2 ⟨D, 1, none⟩ g _ (fun e => by have := hr2.ge g hg; have e' : g = D := e; omega))) ((Turn.of_below HB2.out).setCell D 1 _ (.inl rfl))
  have st4 : ∀ (p : Nat) (a1 : Option Addr) (c1 : Nat) (W : World), Below W0.heap.size W0 W → TRow W W0.heap.size (.slice a1 ins.length c1) ins → Rg.wpAnyL Try.prog .any ops Q (SLe D last (.slice va ins.length vc)) 5 #[true, true, true, true, true, true, true, true, true, true, true, false, false, false, false, false] ⟨#[x0, x1, x2, x3, .pointer (some ⟨D, 0, none⟩), x5, x6, x7, x8, x9, x10, x11, x12, x13, x14, x15, x16, x17, x18, x19, x20, x21, x22, x23, x24, x25, x26, x27, x28, x29, x30, x31, x32, x33, x34, x35, x36, x37, x38, x39, x40, x41, x42, x43, x44, x45, x46, x47, x48, x49, x50, x51, x52, x53, x54, x55, x56, x57, .pointer (some ⟨D, 0, none⟩), .slice (some ⟨p, 0, none⟩) 0 0, .pointer (some ⟨D, 0, none⟩), .pointer (some ⟨D, 0, none⟩), .pointer (some ⟨D, 1, none⟩), .slice va ins.length vc, .slice a1 ins.length c1, .pointer (some ⟨D, 0, none⟩), .pointer (some ⟨D, 0, none⟩), .pointer (some ⟨D, 0, none⟩), .int .i64 last, x69, x70, x71, x72, x73, x74, x75, x76, x77, x78, x79, x80, x81, x82, x83, x84, x85, x86, x87, x88, x89, x90, x91, x92, x93, x94, x95, x96, x97, x98, x99, x100, x101, x102, x103, x104, x105, x106, x107, x108, x109, x110, x111, x112, x113, x114, x115, x116, x117, x118, x119, x120, x121, x122, x123, x124, x125, x126, x127, x128, x129, x130, x131, x132, x133, x134, x135, x136, x137], []⟩ W := by
    intro  p       a1       c1       W hb hr
    have HB : Hid (Below W0.heap.size W0 W) := hb
    have HMW := HM.out W hb
    clear hb
    subst hops
    refine Rg.wpAnyL_ready (rs := [11]) (by kernel_rfl) (by simp) ?_
    refine (Rg.AllReadyL.cons (o := _) (by simp only [List.getElem?_toArray, List.getElem?_cons_succ, List.getElem?_cons_zero]; rfl) (fun K hK => ?_) Rg.AllReadyL.nil)
    go_simp
    go_wp2_with fail
    have hb' : Below W0.heap.size W0 (W.alloc (Obj.cells #[.int .i64 last] 3)) := HB.out.alloc HB.out.size _
    exact hK.out _ _ (sle_all (HM.out _ hb')) (fun hHeld => st5 p W.heap.size a1 c1 _ hb' (hr.keep (fun g hg => Below.heap_alloc _ _ _ (hr.lt g hg))) (lit_at W last) (fun g hg e => by have := hr.lt g hg; omega))
  have st3 : ∀ (p q : Nat) (W : World), Below W0.heap.size W0 W → TRow W W0.heap.size (.slice (some ⟨p, 0, none⟩) 0 0) [] → TAt W (.slice (some ⟨q, 0, none⟩) 1 1) [last] → p ≠ q → Rg.wpAnyL Try.prog .any ops Q (SLe D last (.slice va ins.length vc)) 5 #[true, true, true, true, true, true, false, true, true, true, true, true, false, false, false, false] ⟨#[x0, x1, x2, x3, .pointer (some ⟨D, 0, none⟩), x5, x6, x7, x8, x9, x10, x11, x12, x13, x14, x15, x16, x17, x18, x19, x20, x21, x22, x23, x24, x25, x26, x27, x28, x29, x30, x31, x32, x33, x34, x35, x36, x37, x38, x39, x40, x41, x42, x43, x44, x45, x46, x47, x48, x49, x50, x51, x52, x53, x54, x55, x56, x57, .pointer (some ⟨D, 0, none⟩), .slice (some ⟨p, 0, none⟩) 0 0, .pointer (some ⟨D, 0, none⟩), .pointer (some ⟨D, 0, none⟩), .pointer (some ⟨D, 1, none⟩), .slice va ins.length vc, x64, .pointer (some ⟨D, 0, none⟩), .pointer (some ⟨D, 0, none⟩), .pointer (some ⟨D, 0, none⟩), .int .i64 last, .slice (some ⟨q, 0, none⟩) 1 1, x70, x71, x72, x73, x74, x75, x76, x77, x78, x79, x80, x81, x82, x83, x84, x85, x86, x87, x88, x89, x90, x91, x92, x93, x94, x95, x96, x97, x98, x99, x100, x101, x102, x103, x104, x105, x106, x107, x108, x109, x110, x111, x112, x113, x114, x115, x116, x117, x118, x119, x120, x121, x122, x123, x124, x125, x126, x127, x128, x129, x130, x131, x132, x133, x134, x135, x136, x137], []⟩ W := by
    intro  p q       W hb hr hx hpq
    have HB : Hid (Below W0.heap.size W0 W) := hb
    have HMW := HM.out W hb
    clear hb
    subst hops
    refine Rg.wpAnyL_ready (rs := [6]) (by kernel_rfl) (by simp) ?_
    refine (Rg.AllReadyL.cons (o := _) (by simp only [List.getElem?_toArray, List.getElem?_cons_succ, List.getElem?_cons_zero]; rfl) (fun K hK => ?_) Rg.AllReadyL.nil)
    have hr0 : TRow W W0.heap.size (.slice (some ⟨p, 0, none⟩) 0 0) [] := hr
    obtain ⟨v1, W1, hrun, hr1, hg1, hn1⟩ := app_all hr0 HB.out.size (by decide) (HI.out W HB.out) (by omega) 29
    rw [List.nil_append] at hr1
    obtain ⟨a1, c1, hv1⟩ := hr1.slice
    subst hv1
    have hb' : Below W0.heap.size W0 W1 := HB.out.grown hg1 HB.out.size (fun g e => hr0.ge g e)
    refine wpH_append (by rfl) rfl rfl rfl hrun ?_
    exact hK.out _ _ (sle_all (HM.out _ hb')) (fun hHeld => st5 p q a1 c1 _ hb' hr1 (TAt.grown hx hg1 (fun g e e2 => hpq ((Option.some.inj e2).trans (Option.some.inj e).symm))) (fun g hg => near_ne hpq (tat_lt hx) hn1 hg))
  have st1 : ∀ (p : Nat) (W : World), Below W0.heap.size W0 W → TRow W W0.heap.size (.slice (some ⟨p, 0, none⟩) 0 0) [] → Rg.wpAnyL Try.prog .any ops Q (SLe D last (.slice va ins.length vc)) 6 #[true, true, true, true, true, true, false, true, true, true, true, false, false, false, false, false] ⟨#[x0, x1, x2, x3, .pointer (some ⟨D, 0, none⟩), x5, x6, x7, x8, x9, x10, x11, x12, x13, x14, x15, x16, x17, x18, x19, x20, x21, x22, x23, x24, x25, x26, x27, x28, x29, x30, x31, x32, x33, x34, x35, x36, x37, x38, x39, x40, x41, x42, x43, x44, x45, x46, x47, x48, x49, x50, x51, x52, x53, x54, x55, x56, x57, .pointer (some ⟨D, 0, none⟩), .slice (some ⟨p, 0, none⟩) 0 0, .pointer (some ⟨D, 0, none⟩), .pointer (some ⟨D, 0, none⟩), .pointer (some ⟨D, 1, none⟩), .slice va ins.length vc, x64, .pointer (some ⟨D, 0, none⟩), .pointer (some ⟨D, 0, none⟩), .pointer (some ⟨D, 0, none⟩), .int .i64 last, x69, x70, x71, x72, x73, x74, x75, x76, x77, x78, x79, x80, x81, x82, x83, x84, x85, x86, x87, x88, x89, x90, x91, x92, x93, x94, x95, x96, x97, x98, x99, x100, x101, x102, x103, x104, x105, x106, x107, x108, x109, x110, x111, x112, x113, x114, x115, x116, x117, x118, x119, x120, x121, x122, x123, x124, x125, x126, x127, x128, x129, x130, x131, x132, x133, x134, x135, x136, x137], []⟩ W := by
    intro  p       W hb hr
    have HB : Hid (Below W0.heap.size W0 W) := hb
    have HMW := HM.out W hb
    clear hb
    subst hops
    refine Rg.wpAnyL_ready (rs := [6, 11]) (by kernel_rfl) (by simp) ?_
    refine (Rg.AllReadyL.cons (o := _) (by simp only [List.getElem?_toArray, List.getElem?_cons_succ, List.getElem?_cons_zero]; rfl) (fun K hK => ?_) (Rg.AllReadyL.cons (o := _) (by simp only [List.getElem?_toArray, List.getElem?_cons_succ, List.getElem?_cons_zero]; rfl) (fun K hK => ?_) Rg.AllReadyL.nil))
    · skip
      have hr0 : TRow W W0.heap.size (.slice (some ⟨p, 0, none⟩) 0 0) [] := hr
      obtain ⟨v1, W1, hrun, hr1, hg1, hn1⟩ := app_all hr0 HB.out.size (by decide) (HI.out W HB.out) (by omega) 29
      rw [List.nil_append] at hr1
      obtain ⟨a1, c1, hv1⟩ := hr1.slice
      subst hv1
      have hb' : Below W0.heap.size W0 W1 := HB.out.grown hg1 HB.out.size (fun g e => hr0.ge g e)
      refine wpH_append (by rfl) rfl rfl rfl hrun ?_
      exact hK.out _ _ (sle_all (HM.out _ hb')) (fun hHeld => st4 p a1 c1 _ hb' hr1)
    · go_simp
      go_wp2_with fail
      have hb' : Below W0.heap.size W0 (W.alloc (Obj.cells #[.int .i64 last] 3)) := HB.out.alloc HB.out.size _
      exact hK.out _ _ (sle_all (HM.out _ hb')) (fun hHeld => st3 p W.heap.size _ hb' (TRow.keep hr (fun g hg => Below.heap_alloc _ _ _ (TRow.lt hr g hg))) (lit_at W last) (fun e => by have := TRow.lt hr p rfl; omega))
  have st2 : ∀ (q : Nat) (W : World), Below W0.heap.size W0 W → TAt W (.slice (some ⟨q, 0, none⟩) 1 1) [last] → Rg.wpAnyL Try.prog .any ops Q (SLe D last (.slice va ins.length vc)) 6 #[true, false, true, true, true, true, false, true, true, true, true, true, false, false, false, false] ⟨#[x0, x1, x2, x3, .pointer (some ⟨D, 0, none⟩), x5, x6, x7, x8, x9, x10, x11, x12, x13, x14, x15, x16, x17, x18, x19, x20, x21, x22, x23, x24, x25, x26, x27, x28, x29, x30, x31, x32, x33, x34, x35, x36, x37, x38, x39, x40, x41, x42, x43, x44, x45, x46, x47, x48, x49, x50, x51, x52, x53, x54, x55, x56, x57, .pointer (some ⟨D, 0, none⟩), x59, .pointer (some ⟨D, 0, none⟩), .pointer (some ⟨D, 0, none⟩), .pointer (some ⟨D, 1, none⟩), .slice va ins.length vc, x64, .pointer (some ⟨D, 0, none⟩), .pointer (some ⟨D, 0, none⟩), .pointer (some ⟨D, 0, none⟩), .int .i64 last, .slice (some ⟨q, 0, none⟩) 1 1, x70, x71, x72, x73, x74, x75, x76, x77, x78, x79, x80, x81, x82, x83, x84, x85, x86, x87, x88, x89, x90, x91, x92, x93, x94, x95, x96, x97, x98, x99, x100, x101, x102, x103, x104, x105, x106, x107, x108, x109, x110, x111, x112, x113, x114, x115, x116, x117, x118, x119, x120, x121, x122, x123, x124, x125, x126, x127, x128, x129, x130, x131, x132, x133, x134, x135, x136, x137], []⟩ W := by
    intro  q       W hb hx
    have HB : Hid (Below W0.heap.size W0 W) := hb
    have HMW := HM.out W hb
    clear hb
    subst hops
    refine Rg.wpAnyL_ready (rs := [1]) (by kernel_rfl) (by simp) ?_
    refine (Rg.AllReadyL.cons (o := _) (by simp only [List.getElem?_toArray, List.getElem?_cons_succ, List.getElem?_cons_zero]; rfl) (fun K hK => ?_) Rg.AllReadyL.nil)
    go_simp
    go_wp2_with fail
    have hb' : Below W0.heap.size W0 (W.alloc (Obj.cells #[] 3)) := HB.out.alloc HB.out.size _
    exact hK.out _ _ (sle_all (HM.out _ hb')) (fun hHeld => st3 W.heap.size q _ hb' (World.ownsRow_lit W #[] 0 HB.out.size (by decide) rfl) (TAt.bel hx ((Below.refl _ _).alloc (Nat.le_refl _) _) (Nat.le_refl _)) (fun e => by have := tat_lt hx; omega))
  have st0 : ∀ (W : World), Below W0.heap.size W0 W → Rg.wpAnyL Try.prog .any ops Q (SLe D last (.slice va ins.length vc)) 7 #[true, false, true, true, true, true, false, true, true, true, true, false, false, false, false, false] ⟨#[x0, x1, x2, x3, .pointer (some ⟨D, 0, none⟩), x5, x6, x7, x8, x9, x10, x11, x12, x13, x14, x15, x16, x17, x18, x19, x20, x21, x22, x23, x24, x25, x26, x27, x28, x29, x30, x31, x32, x33, x34, x35, x36, x37, x38, x39, x40, x41, x42, x43, x44, x45, x46, x47, x48, x49, x50, x51, x52, x53, x54, x55, x56, x57, .pointer (some ⟨D, 0, none⟩), x59, .pointer (some ⟨D, 0, none⟩), .pointer (some ⟨D, 0, none⟩), .pointer (some ⟨D, 1, none⟩), .slice va ins.length vc, x64, .pointer (some ⟨D, 0, none⟩), .pointer (some ⟨D, 0, none⟩), .pointer (some ⟨D, 0, none⟩), .int .i64 last, x69, x70, x71, x72, x73, x74, x75, x76, x77, x78, x79, x80, x81, x82, x83, x84, x85, x86, x87, x88, x89, x90, x91, x92, x93, x94, x95, x96, x97, x98, x99, x100, x101, x102, x103, x104, x105, x106, x107, x108, x109, x110, x111, x112, x113, x114, x115, x116, x117, x118, x119, x120, x121, x122, x123, x124, x125, x126, x127, x128, x129, x130, x131, x132, x133, x134, x135, x136, x137], []⟩ W := by
    intro  W hb 
    have HB : Hid (Below W0.heap.size W0 W) := hb
    have HMW := HM.out W hb
    clear hb
    subst hops
    refine Rg.wpAnyL_ready (rs := [1, 11]) (by kernel_rfl) (by simp) ?_
    refine (Rg.AllReadyL.cons (o := _) (by simp only [List.getElem?_toArray, List.getElem?_cons_succ, List.getElem?_cons_zero]; rfl) (fun K hK => ?_) (Rg.AllReadyL.cons (o := _) (by simp only [List.getElem?_toArray, List.getElem?_cons_succ, List.getElem?_cons_zero]; rfl) (fun K hK => ?_) Rg.AllReadyL.nil))
    · go_simp
      go_wp2_with fail
      have hb' : Below W0.heap.size W0 (W.alloc (Obj.cells #[] 3)) := HB.out.alloc HB.out.size _
      exact hK.out _ _ (sle_all (HM.out _ hb')) (fun hHeld => st1 W.heap.size _ hb' (World.ownsRow_lit W #[] 0 HB.out.size (by decide) rfl))
    · go_simp
      go_wp2_with fail
      have hb' : Below W0.heap.size W0 (W.alloc (Obj.cells #[.int .i64 last] 3)) := HB.out.alloc HB.out.size _
      exact hK.out _ _ (sle_all (HM.out _ hb')) (fun hHeld => st2 W.heap.size _ hb' (lit_at W last))
  refine Rg.wp_region_L (SL := SLe D last (.slice va ins.length vc)) (by kernel_rfl) (sle_all (HM.out _ (Below.refl _ _).drew)) (fun hHeld => ?_)
  rw [hops]
  rw [hops] at hHeld
  change Rg.wpAnyL _ _ _ _ _ 16 (Array.replicate 16 false) _ _
  refine Rg.wpAnyL_take (i := 0) (oi := _) (v := _) (fun _ => True) (by simp only [List.getElem?_toArray, List.getElem?_cons_zero]; rfl) (by kernel_rfl) (by kernel_rfl) (by kernel_rfl) (by kernel_rfl) (by exact fun _ _ _ h => hQp _ _ _ _ _ h) (sle_ind (by decide)) (fun _ _ _ _ => trivial) (Or.inl ⟨by rfl, by intro w' hSw; (try dsimp only at hSw); first | (go_simp; done) | (go_simp; with_reducible rfl)⟩) hHeld (sle_put (by decide) hHeld) (fun hHeld => ?_)
  simp only [Act.put, List.setIfInBounds_toArray, List.set_cons_zero, List.set_cons_succ]
  refine Rg.wpAnyL_take (i := 2) (oi := _) (v := _) (fun _ => True) (by simp only [List.getElem?_toArray, List.getElem?_cons_succ, List.getElem?_cons_zero]; rfl) (by kernel_rfl) (by kernel_rfl) (by kernel_rfl) (by kernel_rfl) (by exact fun _ _ _ h => hQp _ _ _ _ _ h) (sle_ind (by decide)) (fun _ _ _ _ => trivial) (Or.inl ⟨by rfl, by intro w' hSw; (try dsimp only at hSw); first | (go_simp; done) | (go_simp; with_reducible rfl)⟩) hHeld (sle_put (by decide) hHeld) (fun hHeld => ?_)
  simp only [Act.put, List.setIfInBounds_toArray, List.set_cons_zero, List.set_cons_succ]
  refine Rg.wpAnyL_take (i := 3) (oi := _) (v := _) (fun _ => True) (by simp only [List.getElem?_toArray, List.getElem?_cons_succ, List.getElem?_cons_zero]; rfl) (by kernel_rfl) (by kernel_rfl) (by kernel_rfl) (by kernel_rfl) (by exact fun _ _ _ h => hQp _ _ _ _ _ h) (sle_ind (by decide)) (fun _ _ _ _ => trivial) (Or.inl ⟨by rfl, by intro w' hSw; (try dsimp only at hSw); first | (go_simp; done) | (go_simp; with_reducible rfl)⟩) hHeld (sle_put (by decide) hHeld) (fun hHeld => ?_)
  simp only [Act.put, List.setIfInBounds_toArray, List.set_cons_zero, List.set_cons_succ]
  refine Rg.wpAnyL_take (i := 4) (oi := _) (v := _) (fun _ => True) (by simp only [List.getElem?_toArray, List.getElem?_cons_succ, List.getElem?_cons_zero]; rfl) (by kernel_rfl) (by kernel_rfl) (by kernel_rfl) (by kernel_rfl) (by exact fun _ _ _ h => hQp _ _ _ _ _ h) (sle_ind (by decide)) (fun _ _ _ _ => trivial) (Or.inl ⟨by rfl, by intro w' hSw; (try dsimp only at hSw); first | (go_simp; done) | (go_simp; with_reducible rfl)⟩) hHeld (sle_put (by decide) hHeld) (fun hHeld => ?_)
  simp only [Act.put, List.setIfInBounds_toArray, List.set_cons_zero, List.set_cons_succ]
  refine Rg.wpAnyL_take (i := 5) (oi := _) (v := _) (fun W => W.cell? ⟨D, 1, none⟩ = some (.slice va ins.length vc)) (by simp only [List.getElem?_toArray, List.getElem?_cons_succ, List.getElem?_cons_zero]; rfl) (by kernel_rfl) (by kernel_rfl) (by kernel_rfl) (by kernel_rfl) (by exact fun _ _ _ h => hQp _ _ _ _ _ h) (sle_ind (by decide)) (fun _ _ hL h => h.2 (hL 15 _ (by simp only [List.getElem?_toArray, List.getElem?_cons_succ, List.getElem?_cons_zero]; rfl) ⟨{ on := 5, ground := .phase }, by simp, by rfl, rfl⟩)) (Or.inl ⟨by rfl, by intro w' hSw; (try dsimp only at hSw); first | (go_simp; done) | (go_simp; with_reducible rfl)⟩) hHeld (sle_put (by decide) hHeld) (fun hHeld => ?_)
  simp only [Act.put, List.setIfInBounds_toArray, List.set_cons_zero, List.set_cons_succ]
  refine Rg.wpAnyL_take (i := 7) (oi := _) (v := _) (fun _ => True) (by simp only [List.getElem?_toArray, List.getElem?_cons_succ, List.getElem?_cons_zero]; rfl) (by kernel_rfl) (by kernel_rfl) (by kernel_rfl) (by kernel_rfl) (by exact fun _ _ _ h => hQp _ _ _ _ _ h) (sle_ind (by decide)) (fun _ _ _ _ => trivial) (Or.inl ⟨by rfl, by intro w' hSw; (try dsimp only at hSw); first | (go_simp; done) | (go_simp; with_reducible rfl)⟩) hHeld (sle_put (by decide) hHeld) (fun hHeld => ?_)
  simp only [Act.put, List.setIfInBounds_toArray, List.set_cons_zero, List.set_cons_succ]
  refine Rg.wpAnyL_take (i := 8) (oi := _) (v := _) (fun _ => True) (by simp only [List.getElem?_toArray, List.getElem?_cons_succ, List.getElem?_cons_zero]; rfl) (by kernel_rfl) (by kernel_rfl) (by kernel_rfl) (by kernel_rfl) (by exact fun _ _ _ h => hQp _ _ _ _ _ h) (sle_ind (by decide)) (fun _ _ _ _ => trivial) (Or.inl ⟨by rfl, by intro w' hSw; (try dsimp only at hSw); first | (go_simp; done) | (go_simp; with_reducible rfl)⟩) hHeld (sle_put (by decide) hHeld) (fun hHeld => ?_)
  simp only [Act.put, List.setIfInBounds_toArray, List.set_cons_zero, List.set_cons_succ]
  refine Rg.wpAnyL_take (i := 9) (oi := _) (v := _) (fun _ => True) (by simp only [List.getElem?_toArray, List.getElem?_cons_succ, List.getElem?_cons_zero]; rfl) (by kernel_rfl) (by kernel_rfl) (by kernel_rfl) (by kernel_rfl) (by exact fun _ _ _ h => hQp _ _ _ _ _ h) (sle_ind (by decide)) (fun _ _ _ _ => trivial) (Or.inl ⟨by rfl, by intro w' hSw; (try dsimp only at hSw); first | (go_simp; done) | (go_simp; with_reducible rfl)⟩) hHeld (sle_put (by decide) hHeld) (fun hHeld => ?_)
  simp only [Act.put, List.setIfInBounds_toArray, List.set_cons_zero, List.set_cons_succ]
  refine Rg.wpAnyL_take (i := 10) (oi := _) (v := _) (fun W => W.cell? ⟨D, 0, none⟩ = some (.int .i64 last)) (by simp only [List.getElem?_toArray, List.getElem?_cons_succ, List.getElem?_cons_zero]; rfl) (by kernel_rfl) (by kernel_rfl) (by kernel_rfl) (by kernel_rfl) (by exact fun _ _ _ h => hQp _ _ _ _ _ h) (sle_ind (by decide)) (fun _ _ _ h => h.1) (Or.inl ⟨by rfl, by intro w' hSw; (try dsimp only at hSw); first | (go_simp; done) | (go_simp; with_reducible rfl)⟩) hHeld (sle_put (by decide) hHeld) (fun hHeld => ?_)
  simp only [Act.put, List.setIfInBounds_toArray, List.set_cons_zero, List.set_cons_succ]
  rw [← hops]
  exact st0 _ (Below.refl _ _).drew

end Go.Proofs.Ytgfbcekmnpdoeaa.Hd
