/-
  A new device; a text as a sector's data. Condition: of a new device the numbers are within bounds, of a text it has up to 20 bytes.
-/
import Derived.Test.YtkfphmhnaelflaaNvRep
import Derived.Test.YtkfphmhnaelflaaZsMake
namespace Go.Proofs.Ytkfphmhnaelflaa.Nv
open Go.ChangeShapes Go.WideShapes Go.ChangeAt Go.RowKit Go.Proofs.Fa

variable {w : World}

def newD (n k : Nat) : Dev := ⟨k, List.replicate n (Zs.zstr 512), [], [], false, 0, [], 0, 0, 0⟩
theorem rep_zero (n : Nat) : Lib.repeatL [(0 : UInt8)] n = List.replicate n 0 := by
  induction n with
  | zero => rfl
  | succ n ih => simp [Lib.repeatL, ih, List.replicate_succ]
theorem rep512 : (⟨(Lib.repeatL (⟨#[0]⟩ : ByteArray).data.toList 512).toArray⟩ : ByteArray) = Zs.zstr 512 := by
  unfold Zs.zstr
  rw [show (⟨#[0]⟩ : ByteArray).data.toList = [0] from rfl, rep_zero]

def fullB (s : ByteArray) : ByteArray := s ++ Zs.zstr (512 - s.size)
theorem fullB_size (s : ByteArray) (h : s.size ≤ 512) : (fullB s).size = 512 := by
  unfold fullB
  rw [ByteArray.size_append, Zs.zstr_size]
  omega

set_option maxRecDepth 100000
set_option maxHeartbeats 4000000

theorem full_any (s : ByteArray) (h : s.size ≤ 20) (w : World) : Calls Try.prog 9 #[.string s] w fun e w' => e = .returned (.string (fullB s)) ∧ Below w.heap.size w w' := by
  have h20 : ¬ (20 : Int) < (s.size : Int) := by omega
  have hmk := Zs.make_run (512 - (s.size : Int)) (by omega) (by omega) w
  have hcv := Zs.conv_made0 w (512 - s.size)
  have hcat : ¬ 9223372036854775807 < s.size + (Zs.zstr (512 - s.size)).size := by rw [Zs.zstr_size]; omega
  go_enter Try.func9, Try.ntmps9
  go_wp2
  go_ret
  exact ⟨rfl, (Below.refl _ _).alloc (Nat.le_refl _) _⟩

theorem new_any (n k : Nat) (hn1 : 1 ≤ n) (hn : n ≤ 2048) (hk1 : 1 ≤ k) (hk : k ≤ 64) (w : World) :
    Calls Try.prog 7 #[.int .i64 n, .int .i64 k] w fun e w' => ∃ b, e = .returned (.tuple #[.pointer (some ⟨b, 0, none⟩), .nilIface]) ∧ DevAt w' (fun q => w.heap.size ≤ q ∧ q < w'.heap.size) b (newD n k) ∧ Below w.heap.size w w' := by
  have a1 : ¬ ((n : Int) < 1) := by omega
  have a2 : ¬ ((2048 : Int) < (n : Int)) := by omega
  have a3 : ¬ ((k : Int) < 1) := by omega
  have a4 : ¬ ((64 : Int) < (k : Int)) := by omega
  go_enter Try.func7, Try.ntmps7
  go_wp2_with fail
  refine (Try.strings_Repeat ⟨#[0]⟩ 512 w (by decide) (by decide)).mono ?_
  rintro e w1 ⟨rfl, hb1⟩
  rw [rep512]
  have HB1 : Hid (Below w.heap.size w w1) := hb1
  clear hb1
  obtain ⟨z, hz⟩ : ∃ z, Zs.zstr 512 = z := ⟨_, rfl⟩
  rw [hz]
  have HZ : Hid (Zs.zstr 512 = z) := hz
  clear hz
  obtain ⟨w2, hw2⟩ : ∃ w2, w2 = w1.alloc (Obj.cells #[Value.string z] 9) := ⟨_, rfl⟩
  have HB2 : Hid (Below w.heap.size w w2) := by rw [hw2]; exact HB1.out.alloc HB1.out.size _
  have HX2 : Hid (w2.heap[w1.heap.size]? = some (.cells #[.string z] 9 (0, 0))) := by rw [hw2]; exact heap_alloc_new _ _
  go_wp2_with fail
  rw [← hw2]
  clear hw2
  refine (repeat_any w1.heap.size z n hn1 hn HX2.out).mono ?_
  rintro e w3 ⟨q, rfl, hq, hqs, hb3⟩
  have HB3 : Hid (Below w.heap.size w w3) := HB2.out.trans (hb3.mono HB2.out.size)
  have HQ3 : Hid (w3.heap[q]? = some (.cells (fillC z n n) 9 (0, 0))) := hq
  have HQS : Hid (w.heap.size ≤ q) := Nat.le_trans HB2.out.size hqs
  clear hq hqs hb3
  have HLAS : Hid (w3.ownsRow 0 9 1 (.slice (some ⟨q, 0, none⟩) n n) (List.replicate n z).length (scells (List.replicate n z))) := by
    refine ⟨by simp [scells], .inr ⟨q, n, fillC z n n, by rw [List.length_replicate], Nat.zero_le _, HQ3.out, by simp, by unfold maxLen; omega, by rw [fill_size _ _ _ (Nat.le_refl _)]; omega, ?_⟩⟩
    simp [fillC, scells]
  go_wp2
  go_ret2
  have hq3 := lt_of_heap HQ3.out
  have h3 := HB3.out.size
  have hq0 := HQS.out
  refine ⟨w3.heap.size, rfl, ⟨.slice (some ⟨q, 0, none⟩) n n, .slice none 0 0, .slice none 0 0, .slice none 0 0, heap_alloc_new _ _, ?_, World.ownsRow_nil _ _ _ _, World.ownsRow_nil _ _ _ _, World.ownsRow_nil _ _ _ _, ⟨h3, by simp⟩, ?_, ?_, ?_, ?_, ?_, fun k hk => hk.2⟩, HB3.out.alloc h3 _⟩
  · rw [show (newD n k).lasting = List.replicate n z by unfold newD; rw [HZ.out]]
    exact HLAS.out.alloc _
  · intro g e
    have e' : q = g := Option.some.inj e
    exact ⟨by omega, by simp; omega⟩
  · intro g e; cases e
  · intro g e; cases e
  · intro g e; cases e
  · intro g e; cases e

end Go.Proofs.Ytkfphmhnaelflaa.Nv
