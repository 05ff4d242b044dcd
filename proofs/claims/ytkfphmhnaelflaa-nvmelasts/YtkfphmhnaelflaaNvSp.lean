/-
  One of two writes is kept. No condition.
-/
import Derived.Test.YtkfphmhnaelflaaNvNew
namespace Go.Proofs.Ytkfphmhnaelflaa.Nv
open Go.ChangeShapes Go.WideShapes Go.ChangeAt Go.RowKit Go.Proofs.Fa

variable {w : World}

theorem ok_new (n k : Nat) (h1 : 1 ≤ n) (hn : n ≤ 2048) (hk : k ≤ 64) : Ok (newD n k) := by
  refine ⟨?_, ?_, fun c hc => (by cases hc), fun c hc => (by cases hc), Nat.zero_le _, Nat.zero_le _⟩
  · show 1 ≤ (List.replicate n (Zs.zstr 512)).length ∧ (List.replicate n (Zs.zstr 512)).length ≤ 100000
    rw [List.length_replicate]; omega
  · show (k : Int) ≤ 1000
    omega
/-- The device in the blocks from B on. -/
def Lives (B : Nat) (w : World) (b : Nat) (d : Dev) : Prop := DevAt w (fun q => B ≤ q ∧ q < w.heap.size) b d
theorem Lives.of {B : Nat} {S : Nat → Prop} {w w' : World} {b : Nat} {d : Dev} (h : DevAt w' (Grow S w w') b d) (hS : ∀ k, S k → B ≤ k) (hB : B ≤ w.heap.size) : Lives B w' b d := by
  obtain ⟨vl, vc, vw, vk, h⟩ := h
  refine ⟨vl, vc, vw, vk, h.grow (fun k hk => ⟨?_, h.lt k hk⟩) (fun k hk => hk.2)⟩
  rcases hk with hk | ⟨hk, _⟩
  · exact hS k hk
  · omega
theorem Lives.below {B : Nat} {w w' : World} {b : Nat} {d : Dev} (h : Lives B w b d) (hb : Below w.heap.size w w') : Lives B w' b d := by
  obtain ⟨vl, vc, vw, vk, h⟩ := h
  exact ⟨vl, vc, vw, vk, (h.below hb).grow (fun k hk => ⟨hk.1, Nat.lt_of_lt_of_le hk.2 hb.size⟩) (fun k hk => hk.2)⟩
/-- A row of ints that was just laid. -/
theorem ints_row (w : World) (q : Nat) (l : List Int) (hl : l.length ≤ 1000) (h : w.heap[q]? = some (.cells (icells l).toArray 3 (0, 0))) : w.ownsRow 0 3 1 (.slice (some ⟨q, 0, none⟩) l.length l.length) l.length (icells l) :=
  ⟨by simp [icells], .inr ⟨q, l.length, (icells l).toArray, rfl, Nat.zero_le _, h, Nat.le_refl _, by unfold maxLen; omega, by simp [icells], List.take_of_length_le (by simp [icells])⟩⟩

section
variable {B b : Nat} {d : Dev}
theorem live_submit (c : Cmd) (h : Lives B w b d) (ho : Ok d) (hB : B ≤ w.heap.size) : Calls Try.prog 8 #[.pointer (some ⟨b, 0, none⟩), c.agg] w fun e w' => e = .returned (errV (submitN d c)) ∧ Lives B w' b (submitF d c) ∧ Below B w w' := by
  obtain ⟨vl, vc, vw, vk, hd⟩ := h
  refine (submit_any c hd ho).mono ?_
  rintro e w1 ⟨he, h1, ht⟩
  exact ⟨he, Lives.of h1 (fun k hk => hk.1) hB, ht.below hB (fun k hk => hk.1)⟩
theorem live_complete (i : Int) (h : Lives B w b d) (ho : Ok d) (hk : d.keep.length ≤ 1000000) (hB : B ≤ w.heap.size) : Calls Try.prog 10 #[.pointer (some ⟨b, 0, none⟩), .int .i64 i] w fun e w' => e = .returned (.tuple #[(completeF d i).2.1.agg, errV (completeF d i).2.2]) ∧ Lives B w' b (completeF d i).1 ∧ Below B w w' := by
  obtain ⟨vl, vc, vw, vk, hd⟩ := h
  refine (complete_any i hd ho hk).mono ?_
  rintro e w1 ⟨he, h1, ht⟩
  exact ⟨he, Lives.of h1 (fun k hk => hk.1) hB, ht.below hB (fun k hk => hk.1)⟩
theorem live_crash (kv : Value) (K : List Int) (h : Lives B w b d) (ho : Ok d) (hk : w.ownsRow 0 3 1 kv K.length (icells K)) (hkn : K.length ≤ 1000000) (hB : B ≤ w.heap.size) : Calls Try.prog 14 #[.pointer (some ⟨b, 0, none⟩), kv] w fun e w' => (∃ u, e = .returned u) ∧ Lives B w' b (crashF d K) ∧ Below B w w' := by
  obtain ⟨vl, vc, vw, vk, hd⟩ := h
  refine (crash_any hd ho kv K hk hkn).mono ?_
  rintro e w1 ⟨he, h1, ht⟩
  exact ⟨he, Lives.of h1 (fun k hk => hk.1) hB, ht.below hB (fun k hk => hk.1)⟩
theorem live_boot (h : Lives B w b d) (hB : B ≤ w.heap.size) : Calls Try.prog 15 #[.pointer (some ⟨b, 0, none⟩)] w fun e w' => (∃ u, e = .returned u) ∧ Lives B w' b (bootF d) ∧ Below B w w' := by
  obtain ⟨vl, vc, vw, vk, hd⟩ := h
  refine (boot_any hd).mono ?_
  rintro e w1 ⟨he, h1, ht⟩
  exact ⟨he, Lives.of h1 (fun k hk => hk.1) hB, ht.below hB (fun k hk => hk.1)⟩
theorem live_look (s : Int) (h : Lives B w b d) (ho : Ok d) : Calls Try.prog 11 #[.pointer (some ⟨b, 0, none⟩), .int .i64 s] w fun e w' => e = .returned (.tuple #[.string (lookT d s), errV (lookN d s)]) ∧ Lives B w' b d ∧ Below w.heap.size w w' := by
  have hl := h
  obtain ⟨vl, vc, vw, vk, hd⟩ := h
  refine (look_any hd s ho.cl ho.las.2).mono ?_
  rintro e w1 ⟨he, hb⟩
  exact ⟨he, hl.below hb, hb⟩
end

def spA (A : ByteArray) : Cmd := ⟨2, 1, A, 0⟩
def spB (B : ByteArray) : Cmd := ⟨2, 2, B, 0⟩
def sp1 (A : ByteArray) : Dev := { newD 4 8 with waiting := [spA A] }
def sp2 (A B : ByteArray) : Dev := { newD 4 8 with waiting := [spA A, spB B] }
def sp3 (A B : ByteArray) : Dev := { newD 4 8 with waiting := [spA A], cache := [spB B], writes := 1 }
def sp4 (B : ByteArray) : Dev := { newD 4 8 with lasting := [Zs.zstr 512, Zs.zstr 512, B, Zs.zstr 512], writes := 1, down := true }
def sp5 (B : ByteArray) : Dev := { sp4 B with down := false }
theorem sp_1 (A : ByteArray) (hA : A.size = 512) : submitN (newD 4 8) (spA A) = 0 ∧ submitF (newD 4 8) (spA A) = sp1 A :=
  submit_write rfl rfl ⟨by show (0 : Int) ≤ 1; decide, by simp [spA, newD]⟩ hA (by decide)
theorem sp_2 (A B : ByteArray) (hB : B.size = 512) : submitN (sp1 A) (spB B) = 0 ∧ submitF (sp1 A) (spB B) = sp2 A B :=
  submit_write rfl rfl ⟨by show (0 : Int) ≤ 2; decide, by simp [spB, sp1, newD]⟩ hB (by simp [sp1, newD])
theorem sp_3 (A B : ByteArray) : completeF (sp2 A B) 1 = (sp3 A B, spB B, 0) := by simp [completeF, failsF, tickF, finishF, sp2, sp3, spA, spB, newD, wrap64]
theorem sp_4 (A B : ByteArray) : crashF (sp3 A B) [1, 0] = sp4 B := by rfl
theorem sp_5 (B : ByteArray) : bootF (sp4 B) = sp5 B := by rfl
theorem sp_6 (B : ByteArray) : lookN (sp5 B) 1 = 0 ∧ lookT (sp5 B) 1 = Zs.zstr 512 := ⟨by rfl, by rfl⟩
theorem sp_7 (B : ByteArray) : lookN (sp5 B) 2 = 0 ∧ lookT (sp5 B) 2 = B := ⟨by rfl, by rfl⟩

set_option maxRecDepth 100000
set_option maxHeartbeats 4000000

theorem speaks_any (w : World) : Calls Try.prog 6 #[] w fun e w' => e = .returned (.bool true) ∧ Below w.heap.size w w' := by
  go_enter Try.func6, Try.ntmps6
  go_wp2_with fail
  refine (new_any 4 8 (by decide) (by decide) (by decide) (by decide) w).mono ?_
  rintro e w1 ⟨b, rfl, hd1, hb1⟩
  have HB1 : Hid (Below w.heap.size w w1) := hb1
  have HD1 : Hid (Lives w.heap.size w1 b (newD 4 8)) := hd1
  clear hd1 hb1
  go_wp2_with fail
  refine (full_any ⟨#[97]⟩ (by decide) w1).mono ?_
  rintro e w2 ⟨rfl, hb2⟩
  have HD2 : Hid (Lives w.heap.size w2 b (newD 4 8)) := HD1.out.below hb2
  have HB2 : Hid (Below w.heap.size w w2) := HB1.out.trans (hb2.mono HB1.out.size)
  have hA := fullB_size ⟨#[97]⟩ (by decide)
  obtain ⟨A, hAA⟩ : ∃ A, fullB ⟨#[97]⟩ = A := ⟨_, rfl⟩
  rw [hAA] at hA ⊢
  clear hAA hb2
  go_wp2_with fail
  refine (live_submit (spA A) HD2.out (ok_new 4 8 (by decide) (by decide) (by decide)) HB2.out.size).mono ?_
  rintro e w3 ⟨rfl, hd3, hb3⟩
  rw [(sp_1 A hA).1, errV_0]
  rw [(sp_1 A hA).2] at hd3
  have HO3 : Hid (Ok (sp1 A)) := by show Ok _; rw [← (sp_1 A hA).2]; exact (ok_new 4 8 (by decide) (by decide) (by decide)).submit _
  have HD3 : Hid (Lives w.heap.size w3 b (sp1 A)) := hd3
  have HB3 : Hid (Below w.heap.size w w3) := HB2.out.trans hb3
  clear hd3 hb3
  go_wp2_with fail
  refine (full_any ⟨#[98]⟩ (by decide) w3).mono ?_
  rintro e w4 ⟨rfl, hb4⟩
  have HD4 : Hid (Lives w.heap.size w4 b (sp1 A)) := HD3.out.below hb4
  have HB4 : Hid (Below w.heap.size w w4) := HB3.out.trans (hb4.mono HB3.out.size)
  have hB := fullB_size ⟨#[98]⟩ (by decide)
  have hB0 : (fullB ⟨#[98]⟩).data[0]? = some 98 := by
    unfold fullB
    rw [ByteArray.data_append, Array.getElem?_append_left (by decide)]
    rfl
  obtain ⟨B, hBB⟩ : ∃ B, fullB ⟨#[98]⟩ = B := ⟨_, rfl⟩
  rw [hBB] at hB hB0 ⊢
  clear hBB hb4
  go_wp2_with fail
  refine (live_submit (spB B) HD4.out HO3.out HB4.out.size).mono ?_
  rintro e w5 ⟨rfl, hd5, hb5⟩
  rw [(sp_2 A B hB).1, errV_0]
  rw [(sp_2 A B hB).2] at hd5
  have HO5 : Hid (Ok (sp2 A B)) := by show Ok _; rw [← (sp_2 A B hB).2]; exact HO3.out.submit _
  have HD5 : Hid (Lives w.heap.size w5 b (sp2 A B)) := hd5
  have HB5 : Hid (Below w.heap.size w w5) := HB4.out.trans hb5
  clear hd5 hb5
  go_wp2_with fail
  refine (live_complete 1 HD5.out HO5.out (Nat.zero_le _) HB5.out.size).mono ?_
  rintro e w6 ⟨rfl, hd6, hb6⟩
  rw [sp_3] at hd6 ⊢
  have HO6 : Hid (Ok (sp3 A B)) := by
    have := HO5.out.complete 1 (by show 0 < 1000000; decide)
    rw [sp_3] at this
    exact this
  have HB6 : Hid (Below w.heap.size w w6) := HB5.out.trans hb6
  have HD6 : Hid (Lives w.heap.size w6 b (sp3 A B)) := hd6
  clear hd6 hb6
  rw [show Cmd.agg (sp3 A B, spB B, (0 : Int)).2.1 = .agg #[.int .i64 2, .int .i64 2, .string B, .int .i64 0] from rfl, show errV (sp3 A B, spB B, (0 : Int)).2.2 = .nilIface from rfl]
  obtain ⟨w7, hw7⟩ : ∃ w7, w7 = (w6.alloc (Obj.cells #[.int .i64 2, .int .i64 2, .string B, .int .i64 0] 37)).alloc (Obj.cells #[.int .i64 1, .int .i64 0] 3) := ⟨_, rfl⟩
  have HB7 : Hid (Below w6.heap.size w6 w7) := by rw [hw7]; exact ((Below.refl _ _).alloc (Nat.le_refl _) _).alloc (by simp) _
  have HC7 : Hid (w7.heap[w6.heap.size]? = some (.cells #[.int .i64 2, .int .i64 2, .string B, .int .i64 0] 37 (0, 0))) := by rw [hw7]; exact (Below.heap_alloc _ _ _ (by simp)).trans (heap_alloc_new _ _)
  have HR7 : Hid (w7.heap[w6.heap.size + 1]? = some (.cells #[.int .i64 1, .int .i64 0] 3 (0, 0))) := by
    rw [hw7]
    have := heap_alloc_new (w6.alloc (Obj.cells #[.int .i64 2, .int .i64 2, .string B, .int .i64 0] 37)) (Obj.cells #[.int .i64 1, .int .i64 0] 3)
    rw [World.size_alloc] at this
    exact this
  obtain ⟨vl, vc, vw, vk, hd⟩ := HD6.out
  have HD7 : Hid (DevIn w7 (fun q => w.heap.size ≤ q ∧ q < w6.heap.size) b (sp3 A B) vl vc vw vk) := hd.below HB7.out
  clear hd
  go_wp2_with fail
  rw [← hw7]
  clear hw7
  refine (crash_any HD7.out HO6.out (.slice (some ⟨w6.heap.size + 1, 0, none⟩) 2 2) [1, 0] (ints_row w7 _ [1, 0] (by decide) HR7.out) (by decide)).mono ?_
  rintro e w8 ⟨⟨u, rfl⟩, ⟨vl8, vc8, vw8, vk8, hd8⟩, ht8⟩
  rw [sp_4] at hd8
  have HD8 : Hid (DevIn w8 (Grow (fun q => w.heap.size ≤ q ∧ q < w6.heap.size) w7 w8) b (sp4 B) vl8 vc8 vw8 vk8) := hd8
  have HT8 : Hid (Turn (fun q => w.heap.size ≤ q ∧ q < w6.heap.size) w7 w8) := ht8
  have HC8 : Hid (w8.heap[w6.heap.size]? = some (.cells #[.int .i64 2, .int .i64 2, .string B, .int .i64 0] 37 (0, 0))) := (ht8.block _ (lt_of_heap HC7.out) (fun g => Nat.lt_irrefl _ g.2)).trans HC7.out
  have HB8 : Hid (Below w.heap.size w w8) := (HB6.out.trans (HB7.out.mono HB6.out.size)).trans (ht8.below (Nat.le_trans HB6.out.size HB7.out.size) (fun k hk => hk.1))
  clear hd8 ht8
  go_wp2_with fail
  refine (down_any HD8.out).mono ?_
  rintro e w9 ⟨rfl, rfl⟩
  rw [show (sp4 B).down = true from rfl]
  go_wp2_with fail
  refine (boot_any HD8.out).mono ?_
  rintro e w10 ⟨⟨u, rfl⟩, ⟨vl10, vc10, vw10, vk10, hd10⟩, ht10⟩
  rw [sp_5] at hd10
  have HC10 : Hid (w10.heap[w6.heap.size]? = some (.cells #[.int .i64 2, .int .i64 2, .string B, .int .i64 0] 37 (0, 0))) := (ht10.block _ (lt_of_heap HC8.out) (fun g => by
    rcases g with g | ⟨g, _⟩
    · exact Nat.lt_irrefl _ g.2
    · have := lt_of_heap HC7.out; omega)).trans HC8.out
  have HB10 : Hid (Below w.heap.size w w10) := HB8.out.trans (ht10.below HB8.out.size (fun k hk => by
    rcases hk with hk | ⟨hk, _⟩
    · exact hk.1
    · have := HB7.out.size; have := HB6.out.size; omega))
  have HD10 : Hid (Lives w.heap.size w10 b (sp5 B)) := ⟨_, _, _, _, hd10.grow (fun k hk => ⟨by
    rcases hk with (hk | ⟨hk, _⟩) | ⟨hk, _⟩
    · exact hk.1
    · have := HB7.out.size; have := HB6.out.size; omega
    · have := HB8.out.size; omega, hd10.lt k hk⟩) (fun k hk => hk.2)⟩
  have HO10 : Hid (Ok (sp5 B)) := by
    have := (HO6.out.crash [1, 0]).boot
    rw [sp_4, sp_5] at this
    exact this
  clear hd10 ht10 HD8 HT8 HC8 HB8 HD7 HC7 HR7
  go_wp2_with fail
  refine (live_look 1 HD10.out HO10.out).mono ?_
  rintro e w11 ⟨rfl, hd11, hb11⟩
  rw [(sp_6 B).1, (sp_6 B).2, errV_0]
  have HD11 : Hid (Lives w.heap.size w11 b (sp5 B)) := hd11
  have HC11 : Hid (w11.heap[w6.heap.size]? = some (.cells #[.int .i64 2, .int .i64 2, .string B, .int .i64 0] 37 (0, 0))) := (hb11.block _ (lt_of_heap HC10.out)).trans HC10.out
  have HB11 : Hid (Below w.heap.size w w11) := HB10.out.trans (hb11.mono HB10.out.size)
  clear hd11 hb11
  go_wp2_with fail
  refine (live_look 2 HD11.out HO10.out).mono ?_
  rintro e w12 ⟨rfl, hd12, hb12⟩
  rw [(sp_7 B).1, (sp_7 B).2, errV_0]
  have HC12 := (hb12.block _ (lt_of_heap HC11.out)).trans HC11.out
  have HB12 : Hid (Below w.heap.size w w12) := HB11.out.trans (hb12.mono HB11.out.size)
  obtain ⟨q0, q1, q2, q3, y0, y1, y2, y3⟩ := agg4 HC12
  clear hd12 hb12 HC12
  have hZ : (Zs.zstr 512).size = 512 := Zs.zstr_size 512
  have hZ0 : (Zs.zstr 512).data[0]? = some 0 := rfl
  generalize Zs.zstr 512 = Z at hZ hZ0
  have hZi : (Z[0]'(by rw [hZ]; decide)).toNat = 0 := by
    obtain ⟨h1, h2⟩ := Array.getElem?_eq_some_iff.1 hZ0
    show (Z.data[0]).toNat = 0
    rw [h2]; rfl
  have hBi : (B[0]'(by rw [hB]; decide)).toNat = 98 := by
    obtain ⟨h1, h2⟩ := Array.getElem?_eq_some_iff.1 hB0
    show (B.data[0]).toNat = 98
    rw [h2]; rfl
  clear hZ0 hB0
  go_wp2
  go_ret
  exact ⟨rfl, HB12.out⟩

end Go.Proofs.Ytkfphmhnaelflaa.Nv
