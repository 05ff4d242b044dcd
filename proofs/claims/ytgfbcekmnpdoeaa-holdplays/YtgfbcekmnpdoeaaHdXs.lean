/-
  Holds of string in a caller's world: in blocks of their own, apart from the caller's. No condition.
-/
import Derived.Test.YtgfbcekmnpdoeaaHdDs
namespace Go.Proofs.Ytgfbcekmnpdoeaa.Hds
open Go.ChangeShapes Go.WideShapes Go.ChangeAt Go.RowKit Go.Proofs.Fa Go.Proofs.Ytgfbcekmnpdoeaa.Hd
open Go.Proofs.Ytgfbcekmnpdoeaa.Nv (Turn Grow lt_of_heap lt_of_cell cell_of_heap free_of_heap icells scells icells_one scells_one)

/-- The caller's blocks are as they were. -/
def KeepX (H : Nat → Prop) (w w' : World) : Prop := w.heap.size ≤ w'.heap.size ∧ ∀ k, H k → k < w.heap.size → w'.heap[k]? = w.heap[k]?
theorem KeepX.of_turn {S H : Nat → Prop} {w w' : World} (h : Turn S w w') (hd : ∀ k, H k → ¬ S k) : KeepX H w w' := ⟨h.size, fun k hk hl => h.block k hl (hd k hk)⟩
theorem KeepX.row {H : Nat → Prop} {w w' : World} {B e size n : Nat} {v : Value} {xs : List Value} (h : KeepX H w w') (hr : w.ownsRow B e size v n xs) (hs : ∀ g, v.ownBlock = some g → H g) : w'.ownsRow B e size v n xs := by
  refine ⟨hr.1, ?_⟩
  rcases hr.2 with hn | ⟨g, cap, cur, rfl, hb, hg, rest⟩
  · exact .inl hn
  · exact .inr ⟨g, cap, cur, rfl, hb, (h.2 g (hs g rfl) (lt_of_heap hg)).trans hg, rest⟩

/-- Holds s at b, in blocks that aren't the caller's (H); from w0 on only new blocks were turned. -/
def PlayX (H : Nat → Prop) (w0 wr : World) (b : Nat) (s : HS ByteArray) : Prop :=
  ∃ S mv hv, HoldIn wr S b s mv hv ∧ (∀ k, S k → w0.heap.size ≤ k) ∧ (∀ k, H k → ¬ S k) ∧ Below w0.heap.size w0 wr

variable {H : Nat → Prop} {w0 wr : World} {b : Nat} {s : HS ByteArray}

theorem PlayX.bel (h : PlayX H w0 wr b s) : Below w0.heap.size w0 wr := by obtain ⟨S, mv, hv, _, _, _, hb⟩ := h; exact hb
theorem PlayX.ok (h : PlayX H w0 wr b s) : Ok s := by obtain ⟨S, mv, hv, hh, _⟩ := h; exact hh.ok
theorem PlayX.mono {H' : Nat → Prop} (h : PlayX H w0 wr b s) (hs : ∀ k, H' k → H k) : PlayX H' w0 wr b s := by
  obtain ⟨S, mv, hv, hh, h1, h2, hb⟩ := h
  exact ⟨S, mv, hv, hh, h1, fun k hk => h2 k (hs k hk), hb⟩
/-- The caller lays new blocks. -/
theorem PlayX.below {w' : World} (h : PlayX H w0 wr b s) (hb : Below wr.heap.size wr w') : PlayX (fun k => H k ∨ wr.heap.size ≤ k) w0 w' b s := by
  obtain ⟨S, mv, hv, hh, h1, h2, h3⟩ := h
  refine ⟨S, mv, hv, hh.below hb, h1, fun k hk hs => ?_, h3.trans (hb.mono h3.size)⟩
  rcases hk with hk | hk
  · exact h2 k hk hs
  · have := hh.lt k hs; omega
/-- The caller turns blocks of its own. -/
theorem PlayX.turned {w' : World} {S' : Nat → Prop} (h : PlayX H w0 wr b s) (ht : Turn S' wr w') (hs : ∀ k, S' k → H k) (hn : ∀ k, S' k → w0.heap.size ≤ k) : PlayX (fun k => H k ∨ wr.heap.size ≤ k) w0 w' b s := by
  obtain ⟨S, mv, hv, hh, h1, h2, h3⟩ := h
  refine ⟨S, mv, hv, hh.turn ht (fun k hk hk' => h2 k (hs k hk') hk), h1, fun k hk hs => ?_, h3.trans (ht.below h3.size hn)⟩
  rcases hk with hk | hk
  · exact h2 k hk hs
  · have := hh.lt k hs; omega
theorem PlayX.new (w : World) : PlayX (fun k => k < w.heap.size) w (w.alloc (Obj.cells #[.int .i64 0, .map none, .int .i64 0, .slice none 0 0] 75)) w.heap.size (⟨0, [], 0, []⟩ : HS ByteArray) :=
  ⟨fun k => k = w.heap.size, .map none, .slice none 0 0, ⟨heap_alloc_new w _, .inl ⟨rfl, rfl⟩, ⟨rfl, .inl ⟨rfl, rfl⟩⟩, Ok.new, rfl, fun g e => (by cases e), fun g e => (by cases e), fun k e => by subst e; rw [World.size_alloc]; omega⟩,
    fun k e => by subst e; exact Nat.le_refl _, fun k hk e => by subst e; exact Nat.lt_irrefl _ hk, (Below.refl _ _).alloc (Nat.le_refl _) _⟩

theorem x_enter (h : PlayX H w0 wr b s) (hl : s.last ≤ 999) (hH : ∀ k, H k → k < wr.heap.size) :
    Calls Try.prog 35 #[.pointer (some ⟨b, 0, none⟩)] wr fun e w' => e = .returned (.int .i64 (s.last + 1)) ∧ PlayX H w0 w' b (enterF s) ∧ KeepX H wr w' := by
  obtain ⟨S, mv, hv, hh, h1, h2, h3⟩ := h
  refine (enter_any hh hl).mono ?_
  rintro e w' ⟨rfl, ⟨mv', h'⟩, ht⟩
  refine ⟨rfl, ⟨_, _, _, h', fun k hk => ?_, fun k hk hs => ?_, h3.trans (ht.below h3.size h1)⟩, KeepX.of_turn ht h2⟩
  · rcases hk with hk | ⟨hk, _⟩
    · exact h1 k hk
    · have := h3.size; omega
  · rcases hs with hs | ⟨hs, _⟩
    · exact h2 k hk hs
    · have := hH k hk; omega
theorem x_leave (h : PlayX H w0 wr b s) (t : Int) (ht : -9223372036854775808 ≤ t ∧ t ≤ 9223372036854775807) :
    Calls Try.prog 37 #[.pointer (some ⟨b, 0, none⟩), .int .i64 t] wr fun e w' => (∃ v', e = .returned v' ∧ TRow w' wr.heap.size v' (leaveL s t)) ∧ PlayX (fun k => H k ∨ wr.heap.size ≤ k) w0 w' b (leaveF s t) ∧ KeepX H wr w' := by
  obtain ⟨S, mv, hv, hh, h1, h2, h3⟩ := h
  refine (leave_any hh t ht).mono ?_
  rintro e w' ⟨⟨v', hv', rfl, hr, h'⟩, ht'⟩
  refine ⟨⟨v', rfl, hr⟩, ⟨_, _, _, h', h1, fun k hk hs => ?_, h3.trans (ht'.below h3.size h1)⟩, KeepX.of_turn ht' h2⟩
  rcases hk with hk | hk
  · exact h2 k hk hs
  · have := hh.lt k hs; omega
theorem x_drop (h : PlayX H w0 wr b s) (hm : s.m ≠ []) (v : Value) (xs : List ByteArray) (hx : TAt wr v xs) (hv : ∀ g, v.ownBlock = some g → H g) (hl : s.l.length + xs.length ≤ 5000) (hH : ∀ k, H k → k < wr.heap.size) :
    Calls Try.prog 36 #[.pointer (some ⟨b, 0, none⟩), v] wr fun e w' => e = .returned (.slice none 0 0) ∧ PlayX H w0 w' b (dropF s xs) ∧ KeepX H wr w' := by
  obtain ⟨S, mv, hv', hh, h1, h2, h3⟩ := h
  refine (drop_some v xs hh hm hx (fun g hg => h2 g (hv g hg)) hl).mono ?_
  rintro e w' ⟨rfl, ⟨hv2, h'⟩, ht⟩
  refine ⟨rfl, ⟨_, _, _, h', fun k hk => ?_, fun k hk hs => ?_, h3.trans (ht.below h3.size h1)⟩, KeepX.of_turn ht h2⟩
  · rcases hk with hk | ⟨hk, _⟩
    · exact h1 k hk
    · have := h3.size; omega
  · rcases hs with hs | ⟨hs, _⟩
    · exact h2 k hk hs
    · have := hH k hk; omega
theorem lit_at (w : World) (x : ByteArray) : TAt (w.alloc (Obj.cells #[.string x] 9)) (.slice (some ⟨w.heap.size, 0, none⟩) 1 1) [x] := by
  refine .inr ⟨w.heap.size, 0, 1, rfl, Nat.le_refl _, by decide, by rw [World.size_alloc]; omega, fun i hi => ?_⟩
  have : i = 0 := by simpa using hi
  subst this
  exact cell_of_heap (heap_alloc_new w _) 0 _ rfl
/-- One thing is dropped. -/
theorem x_drop1 (h : PlayX H w0 wr b s) (hm : s.m ≠ []) (x : ByteArray) (hl : s.l.length + 1 ≤ 5000) (hH : ∀ k, H k → k < wr.heap.size) :
    Calls Try.prog 36 #[.pointer (some ⟨b, 0, none⟩), .slice (some ⟨wr.heap.size, 0, none⟩) 1 1] (wr.alloc (Obj.cells #[.string x] 9)) fun e w' => e = .returned (.slice none 0 0) ∧ PlayX H w0 w' b (dropF s [x]) ∧ KeepX H wr w' := by
  have hb : Below wr.heap.size wr (wr.alloc (Obj.cells #[.string x] 9)) := (Below.refl _ _).alloc (Nat.le_refl _) _
  have h1 := (h.below hb).mono (H' := fun k => H k ∨ k = wr.heap.size) (fun k hk => hk.imp id (fun e => by omega))
  refine (x_drop h1 hm _ [x] (lit_at wr x) (fun g hg => by cases hg; exact .inr rfl) hl (fun k hk => ?_)).mono ?_
  · rw [World.size_alloc]
    rcases hk with hk | hk
    · have := hH k hk; omega
    · omega
  · rintro e w' ⟨rfl, h', hk⟩
    refine ⟨rfl, h'.mono (fun k hk => .inl hk), by have := hk.1; rw [World.size_alloc] at this; omega, fun k hk' hl => ?_⟩
    exact (hk.2 k (.inl hk') (by rw [World.size_alloc]; omega)).trans (hb.block k hl)

end Go.Proofs.Ytgfbcekmnpdoeaa.Hds
