/-
  The device in all blocks but some that are kept: the calls' contracts so. No condition.
-/
import Derived.Test.YtkfphmhnaelflaaNvSp
namespace Go.Proofs.Ytkfphmhnaelflaa.Nv
open Go.ChangeShapes Go.WideShapes Go.ChangeAt Go.RowKit Go.Proofs.Fa

/-- The device in blocks that aren't of H. -/
def LivesX (H : Nat → Prop) (w : World) (b : Nat) (d : Dev) : Prop := DevAt w (fun q => ¬ H q ∧ q < w.heap.size) b d
abbrev TurnX (H : Nat → Prop) (w w' : World) : Prop := Turn (fun q => ¬ H q) w w'
theorem TurnX.trans {H : Nat → Prop} {a b c : World} (h : TurnX H a b) (k : TurnX H b c) : TurnX H a c := Turn.trans h (k.mono (fun _ hq => .inl hq))
theorem TurnX.at {H : Nat → Prop} {w w' : World} (h : TurnX H w w') {k : Nat} {o : Obj} (hk : w.heap[k]? = some o) (hH : H k) : w'.heap[k]? = some o := (h.block k (lt_of_heap hk) (fun g => g hH)).trans hk
theorem LivesX.of {H S : Nat → Prop} {w w' : World} {b : Nat} {d : Dev} (h : DevAt w' (Grow S w w') b d) (hS : ∀ k, S k → ¬ H k) (hH : ∀ k, H k → k < w.heap.size) : LivesX H w' b d := by
  obtain ⟨vl, vc, vw, vk, h⟩ := h
  refine ⟨vl, vc, vw, vk, h.grow (fun k hk => ⟨?_, h.lt k hk⟩) (fun k hk => hk.2)⟩
  rcases hk with hk | ⟨hk, _⟩
  · exact hS k hk
  · intro g
    have := hH k g
    omega
theorem LivesX.below {H : Nat → Prop} {w w' : World} {b : Nat} {d : Dev} (h : LivesX H w b d) (hb : Below w.heap.size w w') : LivesX H w' b d := by
  obtain ⟨vl, vc, vw, vk, h⟩ := h
  exact ⟨vl, vc, vw, vk, (h.below hb).grow (fun k hk => ⟨hk.1, Nat.lt_of_lt_of_le hk.2 hb.size⟩) (fun k hk => hk.2)⟩
theorem LivesX.hole {H : Nat → Prop} {w : World} {b : Nat} {d : Dev} (h : LivesX H w b d) (o : Obj) : LivesX (fun q => H q ∨ q = w.heap.size) (w.alloc o) b d := by
  obtain ⟨vl, vc, vw, vk, h⟩ := h
  refine ⟨vl, vc, vw, vk, (h.below ((Below.refl _ w).alloc (Nat.le_refl _) o)).grow (fun k hk => ⟨?_, by have := hk.2; simp; omega⟩) (fun k hk => hk.2)⟩
  rintro (g | g)
  · exact hk.1 g
  · have := hk.2; omega
theorem LivesX.set {H : Nat → Prop} {w : World} {b : Nat} {d : Dev} (h : LivesX H w b d) (z i : Nat) (v : Value) (hz : H z) : LivesX H (w.setCell ⟨z, i, none⟩ v) b d := by
  obtain ⟨vl, vc, vw, vk, h⟩ := h
  refine ⟨vl, vc, vw, vk, (h.turn (turn_set w z i v) (fun k hk e => ?_)).grow (fun k hk => ⟨hk.1, by simpa using hk.2⟩) (fun k hk => hk.2)⟩
  exact hk.1 (by rw [e]; exact hz)
theorem Lives.x {B : Nat} {w : World} {b : Nat} {d : Dev} (h : Lives B w b d) : LivesX (fun q => q < B) w b d := by
  obtain ⟨vl, vc, vw, vk, h⟩ := h
  exact ⟨vl, vc, vw, vk, h.grow (fun k hk => ⟨by have := hk.1; omega, hk.2⟩) (fun k hk => hk.2)⟩

section
variable {w : World} {H : Nat → Prop} {b : Nat} {d : Dev}
theorem x_submit (c : Cmd) (h : LivesX H w b d) (ho : Ok d) (hH : ∀ k, H k → k < w.heap.size) : Calls Try.prog 8 #[.pointer (some ⟨b, 0, none⟩), c.agg] w fun e w' => e = .returned (errV (submitN d c)) ∧ LivesX H w' b (submitF d c) ∧ TurnX H w w' := by
  obtain ⟨vl, vc, vw, vk, hd⟩ := h
  refine (submit_any c hd ho).mono ?_
  rintro e w1 ⟨he, h1, ht⟩
  exact ⟨he, LivesX.of h1 (fun k hk => hk.1) hH, ht.mono (fun k hk => hk.1)⟩
theorem x_complete (i : Int) (h : LivesX H w b d) (ho : Ok d) (hk : d.keep.length ≤ 1000000) (hH : ∀ k, H k → k < w.heap.size) : Calls Try.prog 10 #[.pointer (some ⟨b, 0, none⟩), .int .i64 i] w fun e w' => e = .returned (.tuple #[(completeF d i).2.1.agg, errV (completeF d i).2.2]) ∧ LivesX H w' b (completeF d i).1 ∧ TurnX H w w' := by
  obtain ⟨vl, vc, vw, vk, hd⟩ := h
  refine (complete_any i hd ho hk).mono ?_
  rintro e w1 ⟨he, h1, ht⟩
  exact ⟨he, LivesX.of h1 (fun k hk => hk.1) hH, ht.mono (fun k hk => hk.1)⟩
theorem x_crash (kv : Value) (K : List Int) (h : LivesX H w b d) (ho : Ok d) (hk : w.ownsRow 0 3 1 kv K.length (icells K)) (hkn : K.length ≤ 1000000) (hH : ∀ k, H k → k < w.heap.size) : Calls Try.prog 14 #[.pointer (some ⟨b, 0, none⟩), kv] w fun e w' => (∃ u, e = .returned u) ∧ LivesX H w' b (crashF d K) ∧ TurnX H w w' := by
  obtain ⟨vl, vc, vw, vk, hd⟩ := h
  refine (crash_any hd ho kv K hk hkn).mono ?_
  rintro e w1 ⟨he, h1, ht⟩
  exact ⟨he, LivesX.of h1 (fun k hk => hk.1) hH, ht.mono (fun k hk => hk.1)⟩
theorem x_boot (h : LivesX H w b d) (hH : ∀ k, H k → k < w.heap.size) : Calls Try.prog 15 #[.pointer (some ⟨b, 0, none⟩)] w fun e w' => (∃ u, e = .returned u) ∧ LivesX H w' b (bootF d) ∧ TurnX H w w' := by
  obtain ⟨vl, vc, vw, vk, hd⟩ := h
  refine (boot_any hd).mono ?_
  rintro e w1 ⟨he, h1, ht⟩
  exact ⟨he, LivesX.of h1 (fun k hk => hk.1) hH, ht.mono (fun k hk => hk.1)⟩
theorem x_look (s : Int) (h : LivesX H w b d) (ho : Ok d) : Calls Try.prog 11 #[.pointer (some ⟨b, 0, none⟩), .int .i64 s] w fun e w' => e = .returned (.tuple #[.string (lookT d s), errV (lookN d s)]) ∧ LivesX H w' b d ∧ Below w.heap.size w w' := by
  have hl := h
  obtain ⟨vl, vc, vw, vk, hd⟩ := h
  refine (look_any hd s ho.cl ho.las.2).mono ?_
  rintro e w1 ⟨he, hb⟩
  exact ⟨he, hl.below hb, hb⟩
theorem x_pending (h : LivesX H w b d) (ho : Ok d) : Calls Try.prog 13 #[.pointer (some ⟨b, 0, none⟩)] w fun e w' => (∃ a c, e = .returned (.slice a d.waiting.length c)) ∧ LivesX H w' b d ∧ Below w.heap.size w w' := by
  have hl := h
  obtain ⟨vl, vc, vw, vk, hd⟩ := h
  refine (pending_any hd (by have := ho.wl; omega)).mono ?_
  rintro e w1 ⟨v, rfl, hv, hb⟩
  obtain ⟨a, c, rfl, _⟩ := row_slice hv
  exact ⟨⟨a, c, rfl⟩, hl.below hb, hb⟩
/-- How many wait, as the world tells it. -/
def muW (b : Nat) (w : World) : Nat := match w.cell? ⟨b, 3, none⟩ with
  | some (.slice _ n _) => n
  | _ => 0
theorem mu_of (h : LivesX H w b d) : muW b w = d.waiting.length := by
  obtain ⟨vl, vc, vw, vk, hd⟩ := h
  obtain ⟨a, c, hv, _⟩ := row_slice hd.wai
  have c3 : w.cell? ⟨b, 3, none⟩ = some (.slice a d.waiting.length c) := by rw [← hv]; exact cell_of_heap hd.main 3 _ rfl
  unfold muW
  rw [c3]
end

end Go.Proofs.Ytkfphmhnaelflaa.Nv
