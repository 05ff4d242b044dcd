/-
  Crash, Boot and Down. No condition.
-/
import Derived.Test.YtkfphmhnaelflaaNvCr
namespace Go.Proofs.Ytkfphmhnaelflaa.Nv
open Go.ChangeShapes Go.WideShapes Go.ChangeAt Go.RowKit Go.Proofs.Fa

variable {w : World} {S : Nat → Prop} {b : Nat} {d : Dev} {vl vc vw vk : Value}

/-- Nothing old was turned: the device is what it was. -/
theorem DevIn.stays {w w' : World} {S : Nat → Prop} {b : Nat} {d : Dev} {vl vc vw vk : Value} (h : DevIn w S b d vl vc vw vk) (hb : Below w.heap.size w w') : DevIn w' (Grow S w w') b d vl vc vw vk :=
  (h.below hb).grow (fun _ hk => .inl hk) (fun k hk => Grow.lt h.lt hb.size k hk)
theorem set3_main {w : World} {b : Nat} {c : Array Value} {t : TypeId} (h : w.heap[b]? = some (.cells c t (0, 0))) (i j k : Nat) (x y z : Value) :
    (((w.setCell ⟨b, i, none⟩ x).setCell ⟨b, j, none⟩ y).setCell ⟨b, k, none⟩ z).heap[b]? = some (.cells (((c.setIfInBounds i x).setIfInBounds j y).setIfInBounds k z) t (0, 0)) :=
  set_main (set_main (set_main h i x) j y) k z
theorem turn_set3 (w : World) (b i j k : Nat) (x y z : Value) : Turn (fun q => q = b) w (((w.setCell ⟨b, i, none⟩ x).setCell ⟨b, j, none⟩ y).setCell ⟨b, k, none⟩ z) :=
  ((turn_set w b i x).setCell b j y (.inl rfl)).setCell b k z (.inl rfl)

set_option maxRecDepth 100000
set_option maxHeartbeats 4000000

theorem down_any (h : DevIn w S b d vl vc vw vk) : Calls Try.prog 16 #[.pointer (some ⟨b, 0, none⟩)] w fun e w' => e = .returned (.bool d.down) ∧ w' = w := by
  have c4 : w.cell? ⟨b, 4, none⟩ = some (.bool d.down) := cell_of_heap h.main 4 _ rfl
  clear h
  go_enter Try.func16, Try.ntmps16
  go_wp2
  go_ret
  exact ⟨rfl, rfl⟩

theorem boot_any (h : DevIn w S b d vl vc vw vk) : Calls Try.prog 15 #[.pointer (some ⟨b, 0, none⟩)] w fun e w' => (∃ u, e = .returned u) ∧ DevAt w' (Grow S w w') b (bootF d) ∧ Turn S w w' := by
  have HD : Hid (DevIn w S b d vl vc vw vk) := h
  have c4 : w.cell? ⟨b, 4, none⟩ = some (.bool d.down) := cell_of_heap h.main 4 _ rfl
  have c5 : w.cell? ⟨b, 5, none⟩ = some (.int .i64 d.failAt) := cell_of_heap h.main 5 _ rfl
  obtain ⟨ak, ck, hvk, _⟩ := row_slice h.kee
  have c6 : w.cell? ⟨b, 6, none⟩ = some (.slice ak d.keep.length ck) := by rw [← hvk]; exact cell_of_heap h.main 6 _ rfl
  have f4 := free_of_heap h.main 4
  have f5 := free_of_heap h.main 5
  have f6 := free_of_heap h.main 6
  have HT := turn_set3 w b 4 5 6 (.bool false) (.int .i64 0) (.slice none 0 0)
  have HM := set3_main h.main 4 5 6 (.bool false) (.int .i64 0) (.slice none 0 0)
  have HTS : Turn S w _ := HT.mono (fun k e => by subst e; exact h.sb)
  have HF : Hid (DevIn _ (Grow S w _) b (bootF d) vl vc vw (.slice none 0 0)) := h.anew HTS (bootF d) vl vc vw (.slice none 0 0) HM
    (row_turn h.las HT (fun g e => row_ne h.las h.main (by decide) g e)) (row_turn h.cac HT (fun g e => row_ne h.cac h.main (by decide) g e)) (row_turn h.wai HT (fun g e => row_ne h.wai h.main (by decide) g e)) (World.ownsRow_nil _ _ _ _)
    (fun g e => .inl (h.sl g e)) (fun g e => .inl (h.sc g e)) (fun g e => .inl (h.sw g e)) (fun g e => by cases e) h.apart
  have HTT : Hid (Turn S w _) := HTS
  clear h HT HM HTS
  go_enter Try.func15, Try.ntmps15
  go_wp2
  go_end0
  exact ⟨⟨_, rfl⟩, ⟨_, _, _, _, HF.out⟩, HTT.out⟩

theorem crash_any (h : DevIn w S b d vl vc vw vk) (ho : Ok d) (kv : Value) (K : List Int) (hk : w.ownsRow 0 3 1 kv K.length (icells K)) (hkn : K.length ≤ 1000000) :
    Calls Try.prog 14 #[.pointer (some ⟨b, 0, none⟩), kv] w fun e w' => (∃ u, e = .returned u) ∧ DevAt w' (Grow S w w') b (crashF d K) ∧ Turn S w w' := by
  have HD : Hid (DevIn w S b d vl vc vw vk) := h
  have HO : Hid (Ok d) := ho
  have HK : Hid (w.ownsRow 0 3 1 kv K.length (icells K)) := hk
  have c4 : w.cell? ⟨b, 4, none⟩ = some (.bool d.down) := cell_of_heap h.main 4 _ rfl
  clear h ho hk
  cases hd : d.down
  case true =>
    rw [hd] at c4
    have e : crashF d K = d := by unfold crashF; rw [if_pos hd]
    rw [e]
    go_enter Try.func14, Try.ntmps14
    go_wp2
    refine bodyPost_ret (results_none rfl _ _ _) rfl ?_
    exact ⟨⟨_, rfl⟩, ⟨_, _, _, _, HD.out.stays (Below.refl _ _)⟩, Turn.refl _ _⟩
  case false =>
    rw [hd] at c4
    have HE : Hid (crashF d K = { d with lasting := settleL d.lasting (keptK K (unsureF d)), cache := [], waiting := [], down := true }) := by show _ = _; unfold crashF; rw [if_neg (by rw [hd]; decide)]
    have HUL : Hid ((unsureF d).length ≤ 1001000) := by
      have h1 := HO.out.cl
      have h2 := HO.out.wl
      have h3 := List.length_filter_le isW d.waiting
      show _ ≤ _
      unfold unsureF
      rw [List.length_append]
      omega
    have HUS : Hid (∀ c ∈ keptK K (unsureF d), 0 ≤ c.sector ∧ c.sector < d.lasting.length) := by
      intro c hc
      have hc := keptK_mem _ _ _ hc
      rcases List.mem_append.1 hc with hc | hc
      · exact HO.out.cac c hc
      · have := HO.out.wai c (List.mem_filter.1 hc).1
        exact this.2.2
    go_enter Try.func14, Try.ntmps14
    go_wp2_with fail
    refine (unsure_any HD.out HO.out.cl HO.out.wl).mono ?_
    rintro e w1 ⟨v1, rfl, ho1, hb1⟩
    have HB1 : Hid (Below w.heap.size w w1) := hb1
    have HO1 : Hid (w1.ownsRow w.heap.size 37 4 v1 (unsureF d).length (ccells (unsureF d))) := ho1
    clear ho1 hb1
    go_wp2_with fail
    refine (kept_any v1 kv (unsureF d) K (row_base HO1.out (Nat.zero_le _)) (row_below HK.out HB1.out) (by have := HUL.out; omega) hkn).mono ?_
    rintro e w2 ⟨v2, rfl, ho2, hb2⟩
    have HB2 : Hid (Below w.heap.size w w2) := HB1.out.trans (hb2.mono HB1.out.size)
    have HO2 : Hid (w2.ownsRow w1.heap.size 37 4 v2 (keptK K (unsureF d)).length (ccells (keptK K (unsureF d)))) := ho2
    have HKL : Hid ((keptK K (unsureF d)).length ≤ 1001000) := by
      have := HUL.out
      show _ ≤ _
      unfold keptK
      split
      · simp
      · exact Nat.le_trans (keptF_length _ _ _) this
    clear ho2 hb2
    go_wp2_with fail
    refine (settle_any (HD.out.below HB2.out) v2 (keptK K (unsureF d)) (row_base HO2.out (Nat.zero_le _)) HUS.out (by have := HKL.out; omega) HO.out.las.2).mono ?_
    rintro e w3 ⟨⟨u, rfl⟩, hD3, hT3⟩
    have HD3 : Hid (DevIn w3 _ b _ vl vc vw vk) := hD3
    have hc := cell_of_heap hD3.main
    have q2 : w3.cell? ⟨b, 2, none⟩ = some vc := hc 2 _ rfl
    have q3 : w3.cell? ⟨b, 3, none⟩ = some vw := hc 3 _ rfl
    have q4 : w3.cell? ⟨b, 4, none⟩ = some (.bool d.down) := hc 4 _ rfl
    have f2 := free_of_heap hD3.main 2
    have f3 := free_of_heap hD3.main 3
    have f4 := free_of_heap hD3.main 4
    have HT3 : Turn S w w3 := (Turn.of_below HB2.out).trans (hT3.mono (fun k e => .inl (HD.out.sl k e)))
    have HT := turn_set3 w3 b 2 3 4 (.slice none 0 0) (.slice none 0 0) (.bool true)
    have HTS : Turn S w _ := HT3.trans (HT.mono (fun k e => by subst e; exact .inl HD.out.sb))
    have HM := set3_main hD3.main 2 3 4 (.slice none 0 0) (.slice none 0 0) (.bool true)
    have HF : Hid (DevIn _ (Grow S w _) b { d with lasting := settleL d.lasting (keptK K (unsureF d)), cache := [], waiting := [], down := true } vl (.slice none 0 0) (.slice none 0 0) vk) := HD.out.anew HTS { d with lasting := settleL d.lasting (keptK K (unsureF d)), cache := [], waiting := [], down := true } vl (.slice none 0 0) (.slice none 0 0) vk HM
      (row_turn hD3.las HT (fun g e => row_ne hD3.las hD3.main (by decide) g e)) (World.ownsRow_nil _ _ _ _) (World.ownsRow_nil _ _ _ _) (row_turn hD3.kee HT (fun g e => row_ne hD3.kee hD3.main (by decide) g e))
      (fun g e => .inl (HD.out.sl g e)) (fun g e => by cases e) (fun g e => by cases e) (fun g e => .inl (HD.out.sk g e)) (fun g e => by cases e)
    have HTT : Hid (Turn S w _) := HTS
    obtain ⟨ac, cc, hvc, _⟩ := row_slice HD.out.cac
    obtain ⟨aw, cw, hvw, _⟩ := row_slice HD.out.wai
    rw [hvc] at q2
    rw [hvw] at q3
    clear hD3 hT3 hc HT3 HT HTS HM hvc hvw
    go_wp2
    go_end0
    exact ⟨⟨_, rfl⟩, by rw [HE.out]; exact ⟨_, _, _, _, HF.out⟩, HTT.out⟩

end Go.Proofs.Ytkfphmhnaelflaa.Nv
