/-
  How a device is laid anew when one of its parts is turned. No condition.
-/
import Derived.Test.YtkfphmhnaelflaaNvM
import Derived.Test.YtkfphmhnaelflaaFaApp
namespace Go.Proofs.Ytkfphmhnaelflaa.Nv
open Go.ChangeShapes Go.WideShapes Go.ChangeAt Go.RowKit Go.Proofs.Fa

theorem row_ne {w : World} {B e size n b : Nat} {v : Value} {xs : List Value} (h : w.ownsRow B e size v n xs) {c : Array Value} {t : TypeId} {m : Nat × Nat} (hb : w.heap[b]? = some (.cells c t m)) (ht : t ≠ e) (g : Nat) (hg : v.ownBlock = some g) : g ≠ b := by
  intro e'
  subst e'
  obtain ⟨c', m', h'⟩ := row_type h g hg
  rw [hb] at h'
  cases h'
  exact ht rfl
theorem rows_ne {w : World} {B e size n B' e' size' n' : Nat} {v v' : Value} {xs xs' : List Value} (h : w.ownsRow B e size v n xs) (h' : w.ownsRow B' e' size' v' n' xs') (ht : e' ≠ e) (g : Nat) (hg : v.ownBlock = some g) : v'.ownBlock ≠ some g := by
  intro e1
  obtain ⟨c', m', h1⟩ := row_type h' g e1
  exact row_ne h h1 ht g hg rfl

/-- A device laid anew. -/
theorem DevIn.anew {w w' : World} {S : Nat → Prop} {b : Nat} {d : Dev} {vl vc vw vk : Value} (h : DevIn w S b d vl vc vw vk) (ht : Turn S w w') (d' : Dev) (vl' vc' vw' vk' : Value)
    (main : w'.heap[b]? = some (.cells (devCells d' vl' vc' vw' vk') 56 (0, 0)))
    (las : w'.ownsRow 0 9 1 vl' d'.lasting.length (scells d'.lasting)) (cac : w'.ownsRow 0 37 4 vc' d'.cache.length (ccells d'.cache))
    (wai : w'.ownsRow 0 37 4 vw' d'.waiting.length (ccells d'.waiting)) (kee : w'.ownsRow 0 3 1 vk' d'.keep.length (icells d'.keep))
    (pl : ∀ g, vl'.ownBlock = some g → S g ∨ w.heap.size ≤ g) (pc : ∀ g, vc'.ownBlock = some g → S g ∨ w.heap.size ≤ g) (pw : ∀ g, vw'.ownBlock = some g → S g ∨ w.heap.size ≤ g) (pk : ∀ g, vk'.ownBlock = some g → S g ∨ w.heap.size ≤ g)
    (apart : ∀ g, vc'.ownBlock = some g → vw'.ownBlock = some g → False) : DevIn w' (Grow S w w') b d' vl' vc' vw' vk' := by
  refine ⟨main, las, cac, wai, kee, .inl h.sb, ?_, ?_, ?_, ?_, apart, fun k hk => Grow.lt h.lt ht.size k hk⟩
  · intro g e; rcases pl g e with h' | h'
    · exact .inl h'
    · exact .inr ⟨h', row_lt las g e⟩
  · intro g e; rcases pc g e with h' | h'
    · exact .inl h'
    · exact .inr ⟨h', row_lt cac g e⟩
  · intro g e; rcases pw g e with h' | h'
    · exact .inl h'
    · exact .inr ⟨h', row_lt wai g e⟩
  · intro g e; rcases pk g e with h' | h'
    · exact .inl h'
    · exact .inr ⟨h', row_lt kee g e⟩

theorem near_from {S : Nat → Prop} {w : World} {v v' : Value} (h : Near w v v') (hv : ∀ g, v.ownBlock = some g → S g) (g : Nat) (e : v'.ownBlock = some g) : S g ∨ w.heap.size ≤ g := by
  rcases h with h | ⟨k, h, hk⟩
  · exact .inl (hv g (h ▸ e))
  · rw [h] at e; cases e; exact .inr hk

/-- Only the device's own block was turned (and new ones laid): numbers, flags. -/
theorem DevIn.flags {w w' : World} {S : Nat → Prop} {b : Nat} {d : Dev} {vl vc vw vk : Value} (h : DevIn w S b d vl vc vw vk) (ht : Turn (fun k => k = b) w w') (d' : Dev)
    (main : w'.heap[b]? = some (.cells (devCells d' vl vc vw vk) 56 (0, 0))) (e1 : d'.lasting = d.lasting) (e2 : d'.cache = d.cache) (e3 : d'.waiting = d.waiting) (e4 : d'.keep = d.keep) :
    DevIn w' (Grow S w w') b d' vl vc vw vk := by
  have hS : Turn S w w' := ht.mono (fun k e => by subst e; exact h.sb)
  refine h.anew hS d' vl vc vw vk main ?_ ?_ ?_ ?_ (fun g e => .inl (h.sl g e)) (fun g e => .inl (h.sc g e)) (fun g e => .inl (h.sw g e)) (fun g e => .inl (h.sk g e)) h.apart
  · rw [e1]; exact row_turn h.las ht (fun g e => row_ne h.las h.main (by decide) g e)
  · rw [e2]; exact row_turn h.cac ht (fun g e => row_ne h.cac h.main (by decide) g e)
  · rw [e3]; exact row_turn h.wai ht (fun g e => row_ne h.wai h.main (by decide) g e)
  · rw [e4]; exact row_turn h.kee ht (fun g e => row_ne h.kee h.main (by decide) g e)

/-- What waits was turned, in its row or in a new one, and the device's own block. -/
theorem DevIn.waits {w w' : World} {S : Nat → Prop} {b : Nat} {d : Dev} {vl vc vw vk : Value} (h : DevIn w S b d vl vc vw vk) (ht : Turn (fun k => k = b ∨ vw.ownBlock = some k) w w') (d' : Dev) (vw' : Value)
    (main : w'.heap[b]? = some (.cells (devCells d' vl vc vw' vk) 56 (0, 0))) (wai : w'.ownsRow 0 37 4 vw' d'.waiting.length (ccells d'.waiting)) (hn : Near w vw vw' ∨ vw'.ownBlock = none)
    (e1 : d'.lasting = d.lasting) (e2 : d'.cache = d.cache) (e4 : d'.keep = d.keep) : DevIn w' (Grow S w w') b d' vl vc vw' vk := by
  have hS : Turn S w w' := ht.mono (fun k e => by rcases e with rfl | e; exact h.sb; exact h.sw k e)
  refine h.anew hS d' vl vc vw' vk main ?_ ?_ wai ?_ (fun g e => .inl (h.sl g e)) (fun g e => .inl (h.sc g e)) (fun g e => ?_) (fun g e => .inl (h.sk g e)) ?_
  · rw [e1]; exact row_turn h.las ht (fun g e hh => hh.elim (row_ne h.las h.main (by decide) g e) (rows_ne h.las h.wai (by decide) g e))
  · rw [e2]; exact row_turn h.cac ht (fun g e hh => hh.elim (row_ne h.cac h.main (by decide) g e) (fun hh => h.apart g e hh))
  · rw [e4]; exact row_turn h.kee ht (fun g e hh => hh.elim (row_ne h.kee h.main (by decide) g e) (rows_ne h.kee h.wai (by decide) g e))
  · rcases hn with hn | hn
    · exact near_from hn h.sw g e
    · rw [hn] at e; cases e
  · intro g e1 e2
    rcases hn with (hn | ⟨k, hn, hk⟩) | hn
    · rw [hn] at e2; exact h.apart g e1 e2
    · rw [hn] at e2; cases e2; have := row_lt h.cac g e1; omega
    · rw [hn] at e2; cases e2

/-- The cache was turned, in its row or in a new one, and the device's own block. -/
theorem DevIn.caches {w w' : World} {S : Nat → Prop} {b : Nat} {d : Dev} {vl vc vw vk : Value} (h : DevIn w S b d vl vc vw vk) (ht : Turn (fun k => k = b ∨ vc.ownBlock = some k) w w') (d' : Dev) (vc' : Value)
    (main : w'.heap[b]? = some (.cells (devCells d' vl vc' vw vk) 56 (0, 0))) (cac : w'.ownsRow 0 37 4 vc' d'.cache.length (ccells d'.cache)) (hn : Near w vc vc' ∨ vc'.ownBlock = none)
    (e1 : d'.lasting = d.lasting) (e3 : d'.waiting = d.waiting) (e4 : d'.keep = d.keep) : DevIn w' (Grow S w w') b d' vl vc' vw vk := by
  have hS : Turn S w w' := ht.mono (fun k e => by rcases e with rfl | e; exact h.sb; exact h.sc k e)
  refine h.anew hS d' vl vc' vw vk main ?_ cac ?_ ?_ (fun g e => .inl (h.sl g e)) (fun g e => ?_) (fun g e => .inl (h.sw g e)) (fun g e => .inl (h.sk g e)) ?_
  · rw [e1]; exact row_turn h.las ht (fun g e hh => hh.elim (row_ne h.las h.main (by decide) g e) (rows_ne h.las h.cac (by decide) g e))
  · rw [e3]; exact row_turn h.wai ht (fun g e hh => hh.elim (row_ne h.wai h.main (by decide) g e) (fun hh => h.apart g hh e))
  · rw [e4]; exact row_turn h.kee ht (fun g e hh => hh.elim (row_ne h.kee h.main (by decide) g e) (rows_ne h.kee h.cac (by decide) g e))
  · rcases hn with hn | hn
    · exact near_from hn h.sc g e
    · rw [hn] at e; cases e
  · intro g e1 e2
    rcases hn with (hn | ⟨k, hn, hk⟩) | hn
    · rw [hn] at e1; exact h.apart g e1 e2
    · rw [hn] at e1; cases e1; have := row_lt h.wai g e2; omega
    · rw [hn] at e1; cases e1

/-- What lasts was turned, in its row. -/
theorem DevIn.lasts {w w' : World} {S : Nat → Prop} {b : Nat} {d : Dev} {vl vc vw vk : Value} (h : DevIn w S b d vl vc vw vk) (ht : Turn (fun k => vl.ownBlock = some k) w w') (l : List ByteArray)
    (las : w'.ownsRow 0 9 1 vl l.length (scells l)) : DevIn w' (Grow S w w') b { d with lasting := l } vl vc vw vk := by
  have hS : Turn S w w' := ht.mono (fun k e => h.sl k e)
  refine h.anew hS { d with lasting := l } vl vc vw vk ?_ las ?_ ?_ ?_ (fun g e => .inl (h.sl g e)) (fun g e => .inl (h.sc g e)) (fun g e => .inl (h.sw g e)) (fun g e => .inl (h.sk g e)) h.apart
  · exact (ht.block b (lt_of_heap h.main) (fun e => row_ne h.las h.main (by decide) b e rfl)).trans h.main
  · exact row_turn h.cac ht (fun g e => rows_ne h.cac h.las (by decide) g e)
  · exact row_turn h.wai ht (fun g e => rows_ne h.wai h.las (by decide) g e)
  · exact row_turn h.kee ht (fun g e => rows_ne h.kee h.las (by decide) g e)

/-- The device's own block, one cell of it turned. -/
theorem set_main {w : World} {b : Nat} {c : Array Value} {t : TypeId} (h : w.heap[b]? = some (.cells c t (0, 0))) (i : Nat) (v : Value) : (w.setCell ⟨b, i, none⟩ v).heap[b]? = some (.cells (c.setIfInBounds i v) t (0, 0)) := heap_setCell_same w b i c t v h
theorem turn_set (w : World) (b i : Nat) (v : Value) : Turn (fun k => k = b) w (w.setCell ⟨b, i, none⟩ v) := (Turn.refl _ w).setCell b i v (.inl rfl)

end Go.Proofs.Ytkfphmhnaelflaa.Nv
