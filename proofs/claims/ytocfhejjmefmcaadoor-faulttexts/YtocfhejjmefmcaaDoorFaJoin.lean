/-
  Join of errors: those that there are. Condition: they are a hundred at most.
-/
import Derived.Test.YtocfhejjmefmcaaDoorFaClone
import Derived.Test.YtocfhejjmefmcaaDoorFaApp
import Derived.LoopN
namespace Go.Proofs.YtocfhejjmefmcaaDoor.Fa
open Go.ChangeShapes Go.WideShapes Go.ChangeAt Go.RowKit Go.Proofs.Fa

def isNilB : Value → Bool
  | .nilIface => true
  | _ => false
/-- The errors of the first k that there are. -/
def errs (E : Nat → Value) : Nat → List Value
  | 0 => []
  | k + 1 => if isNilB (E k) = true then errs E k else errs E k ++ [E k]

theorem errs_yes {E : Nat → Value} {k : Nat} (h : E k = .nilIface) : errs E (k + 1) = errs E k := if_pos (by rw [h]; rfl)
theorem errs_no {E : Nat → Value} {k : Nat} {t : TypeId} {u : Value} (h : E k = .iface t u) : errs E (k + 1) = errs E k ++ [.iface t u] := by
  rw [← h]; exact if_neg (by rw [h]; simp [isNilB])
theorem errs_iface {E : Nat → Value} : ∀ {k : Nat}, (∀ i, i < k → IsI (E i)) → ∀ v ∈ errs E k, ∃ t u, v = .iface t u
  | 0, _, v, hv => by cases hv
  | k + 1, hI, v, hv => by
    rcases hI k (by omega) with h | ⟨t, u, h⟩
    · rw [errs_yes h] at hv; exact errs_iface (fun i hi => hI i (by omega)) v hv
    · rw [errs_no h] at hv
      rcases List.mem_append.1 hv with hv | hv
      · exact errs_iface (fun i hi => hI i (by omega)) v hv
      · exact ⟨t, u, List.mem_singleton.1 hv⟩

theorem own_block {w : World} {B n z : Nat} {v : Value} {e : TypeId} {xs : List Value} (h : w.ownsRow B e z v n xs) : ∀ k, v.ownBlock = some k → B ≤ k := by
  intro k hk
  rcases h.2 with ⟨rfl, _⟩ | ⟨g, cap, cur, rfl, hbg, _⟩
  · simp [Value.ownBlock] at hk
  · simp [Value.ownBlock] at hk; omega
theorem own_slice {w : World} {B n z : Nat} {v : Value} {e : TypeId} {xs : List Value} (h : w.ownsRow B e z v n xs) : ∃ a cap, v = .slice a n cap := by
  rcases h.2 with ⟨rfl, rfl⟩ | ⟨g, cap, _, rfl, _⟩
  · exact ⟨_, _, rfl⟩
  · exact ⟨_, _, rfl⟩
theorem errs_len (E : Nat → Value) (k : Nat) : (errs E k).length ≤ k := by
  induction k with
  | zero => simp [errs]
  | succ k ih =>
    unfold errs
    split
    · omega
    · simp; omega

theorem cells_one (w : World) (v : Value) (t : TypeId) : ∀ j u, [v][j]? = some u → (w.alloc (.cells #[v] t)).cell? ((⟨w.heap.size, 0, none⟩ : Addr).add j) = some u := by
  intro j u h
  match j with
  | 0 => cases h; simp [Addr.add_lit]
  | j + 1 => simp at h

/-- What Join answers. -/
def JoinAt (w : World) (B : Nat) (xs : List Value) (e : Value) : Prop :=
  match xs with
  | [] => e = .nilIface
  | [x] => e = x
  | _ => ∃ g cap, e = .iface 56 (.slice (some ⟨g, 0, none⟩) xs.length cap) ∧ B ≤ g ∧ ∀ i v, xs[i]? = some v → w.cell? ⟨g, i, none⟩ = some v

theorem JoinAt_many {w : World} {B : Nat} {xs : List Value} {v : Value} (hl : 2 ≤ xs.length) (h : w.ownsRow B 25 1 v xs.length xs) : JoinAt w B xs (.iface 56 v) := by
  match xs, hl with
  | x :: y :: r, _ =>
    rcases h.2 with ⟨_, h0⟩ | ⟨g, cap, cur, rfl, hB, hg, hn, _, hs, ht⟩
    · simp at h0
    · refine ⟨g, cap, rfl, hB, fun i u hu => ?_⟩
      have := h.cells (g := g) rfl i u hu
      simpa [Addr.add_lit] using this

set_option maxRecDepth 100000
set_option maxHeartbeats 2000000
theorem join_any (b len cap : Nat) (E : Nat → Value) (w : World) (hlen : len ≤ 100) (hE : ∀ i, i < len → w.cell? ⟨b, i, none⟩ = some (E i)) (hI : ∀ i, i < len → IsI (E i)) :
    Calls Tryd.prog 20 #[.slice (some ⟨b, 0, none⟩) len cap] w fun e w' => (∃ v, e = .returned v ∧ JoinAt w' w.heap.size (errs E len) v) ∧ Below w.heap.size w w' := by
  obtain ⟨i0, hi, hz0, hz1, hz2⟩ := info_parts info_err
  have HE : Hid (∀ i, i < len → w.cell? ⟨b, i, none⟩ = some (E i)) := hE
  have HI : Hid (∀ i, i < len → IsI (E i)) := hI
  clear hE hI
  go_enter Tryd.func20, Tryd.ntmps20
  go_wp2
  go_loopw [3, 8] (fun m i wr => ∃ k : Nat, k ≤ len ∧ i = .int .i64 k ∧ wr.ownsRow w.heap.size 25 1 m (errs E k).length (errs E k) ∧ Below w.heap.size w wr) (fun _ i _ => len - (intOf i).toNat)
  case atStart => exact ⟨0, Nat.zero_le _, rfl, World.ownsRow_nil _ _ _ _, Below.refl _ _⟩
  case round =>
    obtain ⟨k, hk, rfl, hown, hb⟩ := hrel
    have HO : Hid (wr.ownsRow w.heap.size 25 1 _ (errs E k).length (errs E k)) := hown
    have HB : Hid (Below w.heap.size w wr) := hb
    clear hown hb
    by_cases hlt : k < len
    · have hc : wr.cell? ⟨b, k, none⟩ = some (E k) := (HB.out.cell (p := ⟨b, k, none⟩) (lt_of_cell (HE.out k hlt))).trans (HE.out k hlt)
      rcases HI.out k hlt with hv | ⟨t, u, hv⟩
      · have HX : Hid (errs E (k + 1) = errs E k) := errs_yes hv
        rw [hv] at hc
        clear hv
        go_wp2
        go_roundw
        case rel => exact ⟨k + 1, by omega, by go_num, by rw [HX.out]; exact HO.out, HB.out⟩
        case measure => simp [intOf]; omega
      · have HX : Hid (errs E (k + 1) = errs E k ++ [.iface t u]) := by show _ = _; exact errs_no hv
        have hel := errs_len E k
        rw [hv] at hc
        clear hv
        go_wp2_with (at_builtin; refine wpList_append_near _ rfl _ _ 56 rfl w.heap.size 25 i0 _ 1 16 Tryd.underlying56 hi hz0 hz1 hz2 rfl (by decide) _ _ _ rfl (HO.out.alloc _) ⟨wr.heap.size, 0, none⟩ 1 1 [.iface t u] rfl rfl (cells_one _ _ _) (by simp [Value.oneCell']) (by unfold maxLen; omega) (by omega) (by have := HB.out.size; simp; omega) ?_; intro v' w1 hown' hgrow _hn)
        have HG : Hid ((wr.alloc (Obj.cells #[.iface t u] 25)).grownBy w1 _) := hgrow
        have HO1 : Hid (w1.ownsRow w.heap.size 25 1 v' ((errs E k).length + 1) (errs E k ++ [.iface t u])) := hown'
        clear hgrow hown' _hn
        go_roundw
        case rel =>
          refine ⟨k + 1, by omega, by go_num, by rw [HX.out, List.length_append]; exact HO1.out, ?_⟩
          exact (HB.out.alloc HB.out.size _).grown HG.out (by have := HB.out.size; simp; omega) (fun j e => own_block HO.out j e)
        case measure => simp [intOf]; omega
    · obtain rfl : k = len := by omega
      have hii := errs_iface (E := E) (k := k) HI.out
      obtain ⟨a, cap', hv⟩ := own_slice HO.out
      subst hv
      have hel := errs_len E k
      rcases Nat.lt_or_ge (errs E k).length 2 with h2 | h2
      · match hx : errs E k, h2 with
        | [], _ =>
          rw [hx] at HO
          have hJ : Hid (JoinAt wr w.heap.size (errs E k) .nilIface) := by show JoinAt _ _ _ _; rw [hx]; rfl
          clear hii hel h2
          simp only [List.length_nil] at HO ⊢
          go_wp2
          go_ret
          exact ⟨⟨_, rfl, hJ.out⟩, HB.out⟩
        | [x], _ =>
          obtain ⟨t, u, rfl⟩ := hii x (by rw [hx]; simp)
          rw [hx] at HO
          have hJ : Hid (JoinAt wr w.heap.size (errs E k) (.iface t u)) := by show JoinAt _ _ _ _; rw [hx]; rfl
          obtain ⟨g, rfl, hc⟩ : ∃ g, a = some ⟨g, 0, none⟩ ∧ wr.cell? ⟨g, 0, none⟩ = some (.iface t u) := by
            rcases HO.out.2 with ⟨_, h0⟩ | ⟨g, c, cur, he, _⟩
            · simp at h0
            · cases he
              have := HO.out.cells (g := g) rfl 0 (.iface t u) rfl
              exact ⟨g, rfl, by simpa [Addr.add_lit] using this⟩
          clear hii hel h2
          simp only [List.length_cons, List.length_nil] at HO ⊢
          go_wp2
          go_ret
          exact ⟨⟨_, rfl, hJ.out⟩, HB.out⟩
      · have hJ : Hid (JoinAt wr w.heap.size (errs E k) (.iface 56 (.slice a (errs E k).length cap'))) := JoinAt_many h2 HO.out
        have hq0 : (((errs E k).length : Int) == 0) = false := beq_eq_false_iff_ne.2 (by omega)
        have hq1 : (((errs E k).length : Int) == 1) = false := beq_eq_false_iff_ne.2 (by omega)
        clear hii
        generalize (errs E k).length = n at *
        go_wp2
        go_ret
        exact ⟨⟨_, rfl, hJ.out⟩, HB.out⟩

end Go.Proofs.YtocfhejjmefmcaaDoor.Fa
