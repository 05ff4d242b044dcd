/-
  The walk down an error: an error itself and what lies below it, told one by one. No condition.
-/
import Derived.Test.YtncjlcgndhodmabDoorFaPush2
import Derived.Shelf.Abstract
import Derived.Shelf.RegionOpen
import Derived.OwnWalkIn
import Derived.TacticsInMore
import Derived.LoopNIn
import Derived.LoopIn
import Derived.Deep.RegionHeld3
namespace Go.Proofs.YtncjlcgndhodmabDoor.Fa
open Go.ChangeShapes Go.WideShapes Go.ChangeAt Go.RowKit Go.Proofs.Fa Go.Shelf
attribute [local go_sem] Oper.semAt_some

/-- The least of some numbers. -/
noncomputable def least (D : Nat → Prop) : Nat := Classical.epsilon fun n => D n ∧ ∀ m, D m → n ≤ m
theorem least_spec (D : Nat → Prop) (h : ∃ n, D n) : D (least D) ∧ ∀ m, D m → least D ≤ m := by
  refine Classical.epsilon_spec (p := fun n => D n ∧ ∀ m, D m → n ≤ m) ?_
  obtain ⟨n, hn⟩ := h
  induction n using Nat.strongRecOn with
  | ind n ih =>
    by_cases hex : ∃ m, m < n ∧ D m
    · obtain ⟨m, hm, hd⟩ := hex; exact ih m hm hd
    · exact ⟨n, hn, fun m hm => Nat.le_of_not_lt fun hlt => hex ⟨m, hlt, hm⟩⟩

/-- What is still to come of those that wait, the last one first. -/
def work : List Item → List Key
  | [] => []
  | x :: r => work r ++ flat x.l x.ahead x.b
theorem work_append (a b : List Item) : work (a ++ b) = work b ++ work a := by induction a with
  | nil => simp [work]
  | cons x a ih => simp [work, ih]
theorem flat_pos (l : List Layer) (a : ByteArray) (b : Option (Option Int)) : ∃ r, flat l a b = (a, b, l) :: r := by cases l <;> exact ⟨_, rfl⟩
theorem work_length (zs : List Item) : zs.length ≤ (work zs).length := by
  induction zs with
  | nil => simp
  | cons x r ih => obtain ⟨q, hq⟩ := flat_pos x.l x.ahead x.b; simp [work, hq]; omega
theorem flat_length (l : List Layer) (a : ByteArray) (b : Option (Option Int)) : (flat l a b).length ≤ 2 * l.length + 1 := by
  induction l generalizing a with
  | nil => simp [flat]
  | cons y r ih => have := ih ⟨#[]⟩; by_cases hj : y.join = true <;> simp [flat, hj] <;> omega
/-- One that is taken: it itself, and then what is put. -/
theorem work_step (ys ks : List Item) (x : Item) (hk : ks.map Item.key = pushes x.b x.l) : work (ys ++ [x]) = x.key :: work (ys ++ ks) := by
  rw [work_append, work_append]
  have hw : work [x] = x.key :: work ks := by
    obtain ⟨a, b, l, v⟩ := x
    cases l with
    | nil =>
      have : ks = [] := by simpa [pushes] using hk
      subst this; rfl
    | cons y r =>
      by_cases hj : y.join = true
      · simp only [pushes, hj, if_true, List.cons_append, List.nil_append] at hk
        rcases ks with _ | ⟨k1, _ | ⟨k2, _ | ⟨k3, ks⟩⟩⟩ <;> simp only [List.map_cons, List.map_nil, List.cons.injEq, Item.key, Prod.mk.injEq, and_true, reduceCtorEq, and_false, List.nil_eq] at hk
        obtain ⟨⟨h1, h2, h3⟩, h4, h5, h6⟩ := hk
        simp [work, flat, hj, Item.key, h1, h2, h3, h4, h5, h6]
      · simp only [pushes, hj, Bool.false_eq_true, if_false, List.nil_append] at hk
        rcases ks with _ | ⟨k1, _ | ⟨k2, ks⟩⟩ <;> simp only [List.map_cons, List.map_nil, List.cons.injEq, Item.key, Prod.mk.injEq, and_true, reduceCtorEq, and_false, List.nil_eq] at hk
        obtain ⟨h4, h5, h6⟩ := hk
        simp [work, flat, hj, Item.key, h4, h5, h6]
  rw [hw]; rfl

/-- An error that lies in w0, with what stands ahead of it. -/
abbrev It (w0 : World) := { x : Item // x.At w0 }
def It.key {w0 : World} (x : It w0) : Key := x.1.key
def encs {w0 : World} (x : It w0) : Array Value := #[.string x.1.ahead, x.1.v]

/-- Where the walk stands: what has come, what waits. -/
def Stand (w0 : World) (B : Nat) (J : List (It w0) → World → Prop) (b : Option (Option Int)) (l : List Layer) (pre : List (It w0)) (zs : List Item) (v : Value) (wr : World) : Prop :=
  wr.ownsRow B 84 2 v zs.length (row zs) ∧ (∀ z ∈ zs, z.At w0) ∧ pre.map It.key ++ work zs = flat l ⟨#[]⟩ b ∧ J pre wr ∧ Below w0.heap.size w0 wr ∧ B ≤ wr.heap.size

/-- How much is still to come. -/
noncomputable def mu (w0 : World) (B : Nat) (J : List (It w0) → World → Prop) (b : Option (Option Int)) (l : List Layer) (v : Value) (wr : World) : Nat :=
  least fun m => ∃ pre zs, Stand w0 B J b l pre zs v wr ∧ m = (work zs).length
theorem mu_le {w0 : World} {B : Nat} {J : List (It w0) → World → Prop} {b : Option (Option Int)} {l : List Layer} {v : Value} {wr : World} {pre : List (It w0)} {zs : List Item} (h : Stand w0 B J b l pre zs v wr) : mu w0 B J b l v wr ≤ (work zs).length :=
  (least_spec _ ⟨_, pre, zs, h, rfl⟩).2 _ ⟨pre, zs, h, rfl⟩
theorem mu_at {w0 : World} {B : Nat} {J : List (It w0) → World → Prop} {b : Option (Option Int)} {l : List Layer} {v : Value} {wr : World} (h : ∃ pre zs, Stand w0 B J b l pre zs v wr) : ∃ pre zs, Stand w0 B J b l pre zs v wr ∧ mu w0 B J b l v wr = (work zs).length := by
  obtain ⟨pre, zs, h⟩ := h
  exact (least_spec (fun m => ∃ pre zs, Stand w0 B J b l pre zs v wr ∧ m = (work zs).length) ⟨_, pre, zs, h, rfl⟩).1

theorem snoc_of {zs : List Item} (h : zs ≠ []) : ∃ ys x, zs = ys ++ [x] := ⟨zs.dropLast, zs.getLast h, (List.dropLast_concat_getLast h).symm⟩

theorem row_kept {w w' : World} {B : Nat} {v : Value} {n : Nat} {xs : List Value} (h : w.ownsRow B 84 2 v n xs) (k : KeepsM MC w w') : w'.ownsRow B 84 2 v n xs := by
  refine ⟨h.1, ?_⟩
  rcases h.2 with hn | ⟨g, cap, cur, rfl, hb, hg, rest⟩
  · exact .inl hn
  · exact .inr ⟨g, cap, cur, rfl, hb, k.same g _ hg (MC_part _ _), rest⟩

theorem stand_next {w0 : World} {B : Nat} {J : List (It w0) → World → Prop} {b : Option (Option Int)} {l : List Layer} {pre : List (It w0)} {ys ks : List Item} {x : Item} {hxa : x.At w0} {v1 : Value} {w1 W3 : World}
    (hown : w1.ownsRow B 84 2 v1 (ys ++ ks).length (row (ys ++ ks))) (hat : ∀ z ∈ ys ++ [x], z.At w0) (hkat : ∀ z ∈ ks, z.At w0) (hfl : pre.map It.key ++ work (ys ++ [x]) = flat l ⟨#[]⟩ b)
    (hkeys : ks.map Item.key = pushes x.b x.l) (hj : J (pre ++ [⟨x, hxa⟩]) W3) (hk : KeepsM MC w1 W3) (hb1 : Below w0.heap.size w0 w1) (hb3 : Below w0.heap.size w1 W3) (hsz : B ≤ w1.heap.size) :
    Stand w0 B J b l (pre ++ [⟨x, hxa⟩]) (ys ++ ks) v1 W3 := by
  refine ⟨row_kept hown hk, ?_, ?_, hj, hb1.trans hb3, Nat.le_trans hsz hk.size⟩
  · intro z hz
    rcases List.mem_append.1 hz with h | h
    · exact hat z (by simp [h])
    · exact hkat z h
  · rw [work_step ys ks x hkeys] at hfl
    rw [← hfl]
    simp [It.key]

theorem stand_stop {w0 : World} {b : Option (Option Int)} {l : List Layer} {pre : List (It w0)} {ys : List Item} {x : Item} {hxa : x.At w0} (hfl : pre.map It.key ++ work (ys ++ [x]) = flat l ⟨#[]⟩ b) :
    (pre ++ [(⟨x, hxa⟩ : It w0)]).map It.key <+: flat l ⟨#[]⟩ b := by
  have hk : ∃ r, work (ys ++ [x]) = x.key :: r := by
    rw [work_append]
    obtain ⟨q, hq⟩ := flat_pos x.l x.ahead x.b
    exact ⟨q ++ work ys, by simp [work, hq, Item.key]⟩
  obtain ⟨r, hr⟩ := hk
  exact ⟨r, by rw [← hfl, hr]; simp [It.key]⟩

set_option maxRecDepth 100000
set_option maxHeartbeats 8000000

theorem all1_seq (n : Nat) (w0 wm : World) (Bn : Nat) (b : Option (Option Int)) (l : List Layer) (v : Value) (hl : l.length ≤ 1000) (hx : ErrAt w0 b l v) (hwm : Below w0.heap.size w0 wm) (hBn : wm.cell? ⟨Bn, 0, none⟩ = some v) :
    SeqM Fence.wide n Tryd.prog 39 #[.pointer (some ⟨Bn, 0, none⟩)] (encs (w0 := w0)) M w0.heap.size (fun xs => xs.map It.key = flat l ⟨#[]⟩ b) (fun xs => xs.map It.key <+: flat l ⟨#[]⟩ b) wm := by
  intro lp J Jx W hW hJ hJx hY hJ0
  have hcell : W.cell? ⟨Bn, 0, none⟩ = some v := (hW.cell (p := ⟨Bn, 0, none⟩) (lt_of_cell hBn)).trans hBn
  have HX : Hid (ErrAt w0 b l v) := hx
  have hI := hx.isI
  have HB0 : Hid (Below w0.heap.size w0 W) := hwm.trans (hW.mono hwm.size)
  have HJ : Hid (OwnM MC W.heap.size J) := hJ
  have HJx : Hid (OwnM MC W.heap.size Jx) := hJx
  have HJ0 : Hid (J [] W) := hJ0
  clear hx hwm hW hJ hJx hJ0 hBn
  refine callsIn_of_wp Tryd.func39 rfl trivial ?_ rfl
  simp only [Tryd.ntmps39, List.size_toArray, List.length_cons, List.length_nil, Nat.reduceAdd, Nat.reduceSub, Array.replicate_succ, Array.replicate_zero, List.push_toArray, List.append_toArray, List.nil_append, List.cons_append]
  have HS : Hid (Stand w0 W.heap.size J b l [] [⟨⟨#[]⟩, b, l, v⟩] (.slice (some ⟨W.heap.size, 0, none⟩) 1 1) (W.alloc (.cells #[.string ⟨#[]⟩, v] 84))) := by
    refine ⟨⟨rfl, .inr ⟨W.heap.size, 1, #[.string ⟨#[]⟩, v], rfl, Nat.le_refl _, heap_alloc_new W _, Nat.le_refl _, by decide, rfl, rfl⟩⟩, ?_, by simp [work], HJ.out.alloc _ HJ0.out, HB0.out.alloc HB0.out.size _, by simp⟩
    intro z hz; simp only [List.mem_cons, List.not_mem_nil, or_false] at hz; subst hz; exact HX.out
  rcases hI with rfl | ⟨t, u, rfl⟩
  all_goals
    gi_wp2
    gi_loopw [3] (fun p wr => ∃ pre zs, Stand w0 W.heap.size J b l pre zs p wr) (fun p wr => mu w0 W.heap.size J b l p wr)
    case atStart => exact ⟨_, _, HS.out⟩
    case round =>
      have HSZ : Hid (w0.heap.size ≤ W.heap.size) := HB0.out.size
      clear hcell HS HB0 HJ0
      obtain ⟨pre, zs, hst, hmu⟩ := mu_at hrel
      clear hrel
      have Hmu : Hid (mu w0 W.heap.size J b l u3 wr = (work zs).length) := hmu
      obtain ⟨hrow, hat, hfl, hj, hbw, hsz⟩ := hst
      have Hat : Hid (∀ z ∈ zs, z.At w0) := hat
      have Hfl : Hid (pre.map It.key ++ work zs = flat l ⟨#[]⟩ b) := hfl
      have Hj : Hid (J pre wr) := hj
      have Hbw : Hid (Below w0.heap.size w0 wr) := hbw
      clear hat hfl hj hbw hmu
      by_cases hne : zs = []
      · subst hne
        rcases hrow.2 with ⟨rfl, _⟩ | ⟨g, cap, cur, rfl, _⟩
        all_goals
          clear hrow
          gi_wp2
          go_end0
          exact ⟨⟨_, rfl⟩, .inl ⟨pre, by simpa [work] using Hfl.out, Hj.out⟩⟩
      · obtain ⟨ys, x, rfl⟩ := snoc_of hne
        clear hne
        have hlen : (ys ++ [x]).length = ys.length + 1 := by simp
        have hyl : ys.length ≤ 3000 := by
          have h1 := work_length (ys ++ [x])
          have h2 := flat_length l ⟨#[]⟩ b
          have h3 := congrArg List.length Hfl.out
          simp only [List.length_append, List.length_map, List.length_cons, List.length_nil] at h1 h3
          omega
        have hrow2 : wr.ownsRow W.heap.size 84 2 u3 (ys.length + 1) (row ys ++ [.string x.ahead, x.v]) := by rw [← hlen, show row ys ++ [.string x.ahead, x.v] = row (ys ++ [x]) by rw [row_append]; rfl]; exact hrow
        obtain ⟨g, cap, rfl⟩ := ownsRow_succ hrow2
        have hcap : ys.length + 1 ≤ cap := by
          rcases hrow2.2 with ⟨h, _⟩ | ⟨_, _, _, h, _, _, hc, _⟩
          · cases h
          · cases h; exact hc
        have hcap1 : ys.length ≤ cap := by omega
        have hcap0 : ¬ cap = 0 := by omega
        have hwr : IntKind.i64.wrap (ys.length : Int) = ys.length := by rw [IntKind.wrap_i64]; omega
        have hci : (ys.length : Int) ≤ cap := by omega
        have hcapm : cap ≤ 9223372036854775807 := by
          rcases hrow2.2 with ⟨h, _⟩ | ⟨_, _, _, h, _, _, _, hc, _⟩
          · cases h
          · cases h; unfold maxLen at hc; omega
        have hc0 : wr.cell? ⟨g, ys.length * 2, none⟩ = some (.string x.ahead) := by
          have := hrow2.cells (g := g) rfl (ys.length * 2) (.string x.ahead) (by rw [← row_length]; simp)
          simpa [Addr.add_lit] using this
        have hc1 : wr.cell? ⟨g, ys.length * 2 + 1, none⟩ = some x.v := by
          have := hrow2.cells (g := g) rfl (ys.length * 2 + 1) x.v (by rw [← row_length]; simp)
          simpa [Addr.add_lit] using this
        have hgl : g < wr.heap.size := lt_of_cell hc0
        have Hpop : Hid (wr.ownsRow W.heap.size 84 2 (.slice (some ⟨g, 0, none⟩) ys.length cap) ys.length (row ys)) := ownsRow_pop (row_length ys) hrow2
        have hxa := Hat.out x (by simp)
        have hxi := hxa.isI
        clear hrow hrow2 hlen
        obtain ⟨xa, xb, xl, xv⟩ := x
        rcases hxi with hxv | ⟨t', u', hxv⟩
        · have hxv' : xv = _ := hxv
          subst hxv'
          gi_wp2
          have HA : Hid (∀ o, J pre (wr.alloc o).drew) := fun o => HJ.out pre _ _ none (HJ.out.alloc o Hj.out) ⟨rfl, rfl, rfl, Nat.le_refl _, fun _ _ _ => rfl⟩ (fun r e => by cases e)
          have HBA : Hid (∀ o, Below w0.heap.size w0 (wr.alloc o).drew) := fun o => (Hbw.out.alloc Hbw.out.size o).drew
          refine wpIn_wide.2 ?_
          refine wp_region_held_drew (S := fun w' => w'.cell? ⟨wr.heap.size, 1, none⟩ = some Value.nilIface) (by kernel_rfl) (by simp) (fun hHeld => ?_)
          change wpAnyH _ _ _ _ _ 9 (Array.replicate 9 false) _ _
          refine wpAnyH_take (i := 0) (oi := _) (v := _) (by simp only [List.getElem?_toArray, List.getElem?_cons_zero]; rfl) (by kernel_rfl) (by kernel_rfl) (by kernel_rfl) (by exact fun _ _ _ h => h) (Or.inl ⟨by rfl, by intro w' hSw; (try dsimp only at hSw); first | (go_simp; done) | (go_simp; with_reducible rfl)⟩) hHeld ?_
          simp only [Act.put, List.setIfInBounds_toArray, List.set_cons_zero, List.set_cons_succ]
          refine wpAnyH_take (i := 1) (oi := _) (v := _) (by simp only [List.getElem?_toArray, List.getElem?_cons_succ, List.getElem?_cons_zero]; rfl) (by kernel_rfl) (by kernel_rfl) (by kernel_rfl) (by exact fun _ _ _ h => h) (Or.inl ⟨by rfl, by intro w' hSw; (try dsimp only at hSw); first | (go_simp; done) | (go_simp; with_reducible rfl)⟩) hHeld ?_
          simp only [Act.put, List.setIfInBounds_toArray, List.set_cons_zero, List.set_cons_succ]
          refine wpAnyH_take (i := 2) (oi := _) (v := _) (by simp only [List.getElem?_toArray, List.getElem?_cons_succ, List.getElem?_cons_zero]; rfl) (by kernel_rfl) (by kernel_rfl) (by kernel_rfl) (by exact fun _ _ _ h => h) (Or.inl ⟨by rfl, by intro w' hSw; (try dsimp only at hSw); first | (go_simp; done) | (go_simp; with_reducible rfl)⟩) hHeld ?_
          simp only [Act.put, List.setIfInBounds_toArray, List.set_cons_zero, List.set_cons_succ]
          refine wpAnyH_take (i := 3) (oi := _) (v := _) (by simp only [List.getElem?_toArray, List.getElem?_cons_succ, List.getElem?_cons_zero]; rfl) (by kernel_rfl) (by kernel_rfl) (by kernel_rfl) (by exact fun _ _ _ h => h) (Or.inl ⟨by rfl, by intro w' hSw; (try dsimp only at hSw); first | (go_simp; done) | (go_simp; with_reducible rfl)⟩) hHeld ?_
          simp only [Act.put, List.setIfInBounds_toArray, List.set_cons_zero, List.set_cons_succ]
          refine wpAnyH_take (i := 4) (oi := _) (v := _) (by simp only [List.getElem?_toArray, List.getElem?_cons_succ, List.getElem?_cons_zero]; rfl) (by kernel_rfl) (by kernel_rfl) (by kernel_rfl) (by exact fun _ _ _ h => h) (Or.inl ⟨by rfl, by intro w' hSw; (try dsimp only at hSw); first | (go_simp; done) | (go_simp; with_reducible rfl)⟩) hHeld ?_
          simp only [Act.put, List.setIfInBounds_toArray, List.set_cons_zero, List.set_cons_succ]
          refine wpAnyH_take (i := 5) (oi := _) (v := _) (by simp only [List.getElem?_toArray, List.getElem?_cons_succ, List.getElem?_cons_zero]; rfl) (by kernel_rfl) (by kernel_rfl) (by kernel_rfl) (by exact fun _ _ _ h => h) (Or.inl ⟨by rfl, by intro w' hSw; (try dsimp only at hSw); first | (go_simp; done) | (go_simp; with_reducible rfl)⟩) hHeld ?_
          simp only [Act.put, List.setIfInBounds_toArray, List.set_cons_zero, List.set_cons_succ]
          refine wpAnyH_take (i := 6) (oi := _) (v := _) (by simp only [List.getElem?_toArray, List.getElem?_cons_succ, List.getElem?_cons_zero]; rfl) (by kernel_rfl) (by kernel_rfl) (by kernel_rfl) (by exact fun _ _ _ h => h) (Or.inl ⟨by rfl, by intro w' hSw; (try dsimp only at hSw); first | (go_simp; done) | (go_simp; with_reducible rfl)⟩) hHeld ?_
          simp only [Act.put, List.setIfInBounds_toArray, List.set_cons_zero, List.set_cons_succ]
          refine wpAnyH_ready (rs := [7]) (by kernel_rfl) (by simp) ?_
          refine AllReadyH.cons rfl (fun K hK => ?_) AllReadyH.nil
          go_simp
          go_wp2_with fail
          refine (push_any w0 W.heap.size _ (by simp; omega) HSZ.out (HBA.out _) ⟨xa, xb, xl, _⟩ hxa _ ys (by omega) (Hpop.out.alloc _).drew).mono ?_
          rintro e w1 ⟨v1, ks, rfl, hgr, hown, hparts, hkeys, hkat⟩
          have hpk := hgr.block wr.heap.size (by simp) (by intro h; simp [Value.ownBlock] at h; omega)
          have HJ1 : Hid (J pre w1) := hparts (J pre) (fun _ A B row hs hg hr => HJ.out pre A B row hs hg hr) (HA.out _)
          have HB1 : Hid (Below w0.heap.size w0 w1) := (HBA.out _).trans (hparts.below (HBA.out _).size HSZ.out)
          have hsz1 : W.heap.size ≤ w1.heap.size := Nat.le_trans (by simp; omega) hparts.size
          have Hown : Hid (w1.ownsRow W.heap.size 84 2 v1 (ys ++ ks).length (row (ys ++ ks))) := hown
          have Hkeys : Hid (ks.map Item.key = pushes xb xl) := hkeys
          have Hkat : Hid (∀ k ∈ ks, k.At w0) := hkat
          have hp0 : w1.cell? ⟨wr.heap.size, 0, none⟩ = some (.string xa) := (World.cell?_of_block hpk).trans (by simp)
          have hp1 : w1.cell? ⟨wr.heap.size, 1, none⟩ = some Value.nilIface := (World.cell?_of_block hpk).trans (by simp)
          clear hgr hown hparts hkeys hkat hpk
          go_wp2_with fail
          refine hK.out _ _ hp1 (fun hHeld => ?_)
          clear hK K
          refine wpAnyH_take (i := 8) (oi := _) (v := _) (by simp only [List.getElem?_toArray, List.getElem?_cons_succ, List.getElem?_cons_zero]; rfl) (by kernel_rfl) (by kernel_rfl) (by kernel_rfl) (by exact fun _ _ _ h => h) (Or.inl ⟨by rfl, by intro w' hSw; (try dsimp only at hSw); first | (go_simp; done) | (go_simp; with_reducible rfl)⟩) hHeld ?_
          simp only [Act.put, List.setIfInBounds_toArray, List.set_cons_zero, List.set_cons_succ]
          refine wpAnyH_done (by kernel_rfl) ?_ _
          obtain ⟨fn, tmps, assign, body, hy, hR⟩ := hY pre ⟨⟨xa, xb, xl, Value.nilIface⟩, hxa⟩ w1 HJ1.out (stand_stop Hfl.out)
          dsimp only [encs] at hy
          clear hY
          gi_wp2
          refine ⟨fun h => (by cases h), ?_⟩
          refine hR.mono ?_
          rintro e W3 (⟨rfl, hJ3, hk3, hb3⟩ | ⟨rfl, hJx3⟩)
          · have HST : Hid (Stand w0 W.heap.size J b l (pre ++ [⟨⟨xa, xb, xl, Value.nilIface⟩, hxa⟩]) (ys ++ ks) v1 W3) := stand_next Hown.out Hat.out Hkat.out Hfl.out Hkeys.out hJ3 hk3 HB1.out hb3 hsz1
            clear hR hJ3 hk3 hb3
            gi_wp2
            go_roundw
            case rel => exact ⟨_, _, HST.out⟩
            case measure =>
              have h1 := mu_le HST.out
              have h2 := work_step ys ks ⟨xa, xb, xl, Value.nilIface⟩ Hkeys.out
              have h3 := Hmu.out
              rw [h2] at h3
              simp only [List.length_cons] at h3
              first | omega | (simp at h1 h3 ⊢; omega)
          · clear hR
            gi_wp2
            refine bodyPost_ret (results_none rfl _ _ _) rfl ?_
            exact ⟨⟨_, rfl⟩, .inr ⟨_, stand_stop Hfl.out, hJx3⟩⟩
        · have hxv' : xv = _ := hxv
          subst hxv'
          gi_wp2
          have HA : Hid (∀ o, J pre (wr.alloc o).drew) := fun o => HJ.out pre _ _ none (HJ.out.alloc o Hj.out) ⟨rfl, rfl, rfl, Nat.le_refl _, fun _ _ _ => rfl⟩ (fun r e => by cases e)
          have HBA : Hid (∀ o, Below w0.heap.size w0 (wr.alloc o).drew) := fun o => (Hbw.out.alloc Hbw.out.size o).drew
          refine wpIn_wide.2 ?_
          refine wp_region_held_drew (S := fun w' => w'.cell? ⟨wr.heap.size, 1, none⟩ = some (Value.iface t' u')) (by kernel_rfl) (by simp) (fun hHeld => ?_)
          change wpAnyH _ _ _ _ _ 9 (Array.replicate 9 false) _ _
          refine wpAnyH_take (i := 0) (oi := _) (v := _) (by simp only [List.getElem?_toArray, List.getElem?_cons_zero]; rfl) (by kernel_rfl) (by kernel_rfl) (by kernel_rfl) (by exact fun _ _ _ h => h) (Or.inl ⟨by rfl, by intro w' hSw; (try dsimp only at hSw); first | (go_simp; done) | (go_simp; with_reducible rfl)⟩) hHeld ?_
          simp only [Act.put, List.setIfInBounds_toArray, List.set_cons_zero, List.set_cons_succ]
          refine wpAnyH_take (i := 1) (oi := _) (v := _) (by simp only [List.getElem?_toArray, List.getElem?_cons_succ, List.getElem?_cons_zero]; rfl) (by kernel_rfl) (by kernel_rfl) (by kernel_rfl) (by exact fun _ _ _ h => h) (Or.inl ⟨by rfl, by intro w' hSw; (try dsimp only at hSw); first | (go_simp; done) | (go_simp; with_reducible rfl)⟩) hHeld ?_
          simp only [Act.put, List.setIfInBounds_toArray, List.set_cons_zero, List.set_cons_succ]
          refine wpAnyH_take (i := 2) (oi := _) (v := _) (by simp only [List.getElem?_toArray, List.getElem?_cons_succ, List.getElem?_cons_zero]; rfl) (by kernel_rfl) (by kernel_rfl) (by kernel_rfl) (by exact fun _ _ _ h => h) (Or.inl ⟨by rfl, by intro w' hSw; (try dsimp only at hSw); first | (go_simp; done) | (go_simp; with_reducible rfl)⟩) hHeld ?_
          simp only [Act.put, List.setIfInBounds_toArray, List.set_cons_zero, List.set_cons_succ]
          refine wpAnyH_take (i := 3) (oi := _) (v := _) (by simp only [List.getElem?_toArray, List.getElem?_cons_succ, List.getElem?_cons_zero]; rfl) (by kernel_rfl) (by kernel_rfl) (by kernel_rfl) (by exact fun _ _ _ h => h) (Or.inl ⟨by rfl, by intro w' hSw; (try dsimp only at hSw); first | (go_simp; done) | (go_simp; with_reducible rfl)⟩) hHeld ?_
          simp only [Act.put, List.setIfInBounds_toArray, List.set_cons_zero, List.set_cons_succ]
          refine wpAnyH_take (i := 4) (oi := _) (v := _) (by simp only [List.getElem?_toArray, List.getElem?_cons_succ, List.getElem?_cons_zero]; rfl) (by kernel_rfl) (by kernel_rfl) (by kernel_rfl) (by exact fun _ _ _ h => h) (Or.inl ⟨by rfl, by intro w' hSw; (try dsimp only at hSw); first | (go_simp; done) | (go_simp; with_reducible rfl)⟩) hHeld ?_
          simp only [Act.put, List.setIfInBounds_toArray, List.set_cons_zero, List.set_cons_succ]
          refine wpAnyH_take (i := 5) (oi := _) (v := _) (by simp only [List.getElem?_toArray, List.getElem?_cons_succ, List.getElem?_cons_zero]; rfl) (by kernel_rfl) (by kernel_rfl) (by kernel_rfl) (by exact fun _ _ _ h => h) (Or.inl ⟨by rfl, by intro w' hSw; (try dsimp only at hSw); first | (go_simp; done) | (go_simp; with_reducible rfl)⟩) hHeld ?_
          simp only [Act.put, List.setIfInBounds_toArray, List.set_cons_zero, List.set_cons_succ]
          refine wpAnyH_take (i := 6) (oi := _) (v := _) (by simp only [List.getElem?_toArray, List.getElem?_cons_succ, List.getElem?_cons_zero]; rfl) (by kernel_rfl) (by kernel_rfl) (by kernel_rfl) (by exact fun _ _ _ h => h) (Or.inl ⟨by rfl, by intro w' hSw; (try dsimp only at hSw); first | (go_simp; done) | (go_simp; with_reducible rfl)⟩) hHeld ?_
          simp only [Act.put, List.setIfInBounds_toArray, List.set_cons_zero, List.set_cons_succ]
          refine wpAnyH_ready (rs := [7]) (by kernel_rfl) (by simp) ?_
          refine AllReadyH.cons rfl (fun K hK => ?_) AllReadyH.nil
          go_simp
          go_wp2_with fail
          refine (push_any w0 W.heap.size _ (by simp; omega) HSZ.out (HBA.out _) ⟨xa, xb, xl, _⟩ hxa _ ys (by omega) (Hpop.out.alloc _).drew).mono ?_
          rintro e w1 ⟨v1, ks, rfl, hgr, hown, hparts, hkeys, hkat⟩
          have hpk := hgr.block wr.heap.size (by simp) (by intro h; simp [Value.ownBlock] at h; omega)
          have HJ1 : Hid (J pre w1) := hparts (J pre) (fun _ A B row hs hg hr => HJ.out pre A B row hs hg hr) (HA.out _)
          have HB1 : Hid (Below w0.heap.size w0 w1) := (HBA.out _).trans (hparts.below (HBA.out _).size HSZ.out)
          have hsz1 : W.heap.size ≤ w1.heap.size := Nat.le_trans (by simp; omega) hparts.size
          have Hown : Hid (w1.ownsRow W.heap.size 84 2 v1 (ys ++ ks).length (row (ys ++ ks))) := hown
          have Hkeys : Hid (ks.map Item.key = pushes xb xl) := hkeys
          have Hkat : Hid (∀ k ∈ ks, k.At w0) := hkat
          have hp0 : w1.cell? ⟨wr.heap.size, 0, none⟩ = some (.string xa) := (World.cell?_of_block hpk).trans (by simp)
          have hp1 : w1.cell? ⟨wr.heap.size, 1, none⟩ = some (Value.iface t' u') := (World.cell?_of_block hpk).trans (by simp)
          clear hgr hown hparts hkeys hkat hpk
          go_wp2_with fail
          refine hK.out _ _ hp1 (fun hHeld => ?_)
          clear hK K
          refine wpAnyH_take (i := 8) (oi := _) (v := _) (by simp only [List.getElem?_toArray, List.getElem?_cons_succ, List.getElem?_cons_zero]; rfl) (by kernel_rfl) (by kernel_rfl) (by kernel_rfl) (by exact fun _ _ _ h => h) (Or.inl ⟨by rfl, by intro w' hSw; (try dsimp only at hSw); first | (go_simp; done) | (go_simp; with_reducible rfl)⟩) hHeld ?_
          simp only [Act.put, List.setIfInBounds_toArray, List.set_cons_zero, List.set_cons_succ]
          refine wpAnyH_done (by kernel_rfl) ?_ _
          obtain ⟨fn, tmps, assign, body, hy, hR⟩ := hY pre ⟨⟨xa, xb, xl, Value.iface t' u'⟩, hxa⟩ w1 HJ1.out (stand_stop Hfl.out)
          dsimp only [encs] at hy
          clear hY
          gi_wp2
          refine ⟨fun h => (by cases h), ?_⟩
          refine hR.mono ?_
          rintro e W3 (⟨rfl, hJ3, hk3, hb3⟩ | ⟨rfl, hJx3⟩)
          · have HST : Hid (Stand w0 W.heap.size J b l (pre ++ [⟨⟨xa, xb, xl, Value.iface t' u'⟩, hxa⟩]) (ys ++ ks) v1 W3) := stand_next Hown.out Hat.out Hkat.out Hfl.out Hkeys.out hJ3 hk3 HB1.out hb3 hsz1
            clear hR hJ3 hk3 hb3
            gi_wp2
            go_roundw
            case rel => exact ⟨_, _, HST.out⟩
            case measure =>
              have h1 := mu_le HST.out
              have h2 := work_step ys ks ⟨xa, xb, xl, Value.iface t' u'⟩ Hkeys.out
              have h3 := Hmu.out
              rw [h2] at h3
              simp only [List.length_cons] at h3
              first | omega | (simp at h1 h3 ⊢; omega)
          · clear hR
            gi_wp2
            refine bodyPost_ret (results_none rfl _ _ _) rfl ?_
            exact ⟨⟨_, rfl⟩, .inr ⟨_, stand_stop Hfl.out, hJx3⟩⟩

end Go.Proofs.YtncjlcgndhodmabDoor.Fa
