/-
  Layer 15's holds as plain lists; a row that may begin anywhere in its block: read, appended to, cleared. No condition.
-/
import Derived.Test.YtgfbcekmnpdoeaaNvM
import Derived.Maps.OwnSet
import Derived.Lib.SliceRun
namespace Go.Proofs.Ytgfbcekmnpdoeaa.Hd
open Go.ChangeShapes Go.WideShapes Go.ChangeAt Go.RowKit
open Go.Maps (Keyed int_keyed keyOf_int_mk)
open Go.Proofs.Ytgfbcekmnpdoeaa.Nv (Turn Grow lt_of_heap lt_of_cell cell_of_heap free_of_heap)

/-- A slice of elements of two cells, wherever in its block it begins. -/
def ORow (w : World) (e : TypeId) (v : Value) (n : Nat) (xs : List Value) : Prop :=
  xs.length = n * 2 ∧ ((v = .slice none 0 0 ∧ n = 0) ∨ ∃ g off cap cur, v = .slice (some ⟨g, off, none⟩) n cap ∧ w.heap[g]? = some (.cells cur e (0, 0)) ∧ n ≤ cap ∧ cap ≤ maxLen ∧ off + cap * 2 ≤ cur.size ∧ (cur.toList.drop off).take (n * 2) = xs)

section
variable {w w' : World} {e n : Nat} {v : Value} {xs : List Value}

theorem ORow.keep (h : ORow w e v n xs) (hk : ∀ g, v.ownBlock = some g → w'.heap[g]? = w.heap[g]?) : ORow w' e v n xs := by
  refine ⟨h.1, ?_⟩
  rcases h.2 with hn | ⟨g, off, cap, cur, rfl, hg, rest⟩
  · exact .inl hn
  · exact .inr ⟨g, off, cap, cur, rfl, (hk g rfl).trans hg, rest⟩
theorem ORow.lt (h : ORow w e v n xs) (g : Nat) (hg : v.ownBlock = some g) : g < w.heap.size := by
  rcases h.2 with ⟨rfl, _⟩ | ⟨g', off, cap, cur, rfl, hgg, _⟩
  · cases hg
  · cases hg; exact lt_of_heap hgg
theorem ORow.type (h : ORow w e v n xs) (g : Nat) (hg : v.ownBlock = some g) : ∃ c, w.heap[g]? = some (.cells c e (0, 0)) := by
  rcases h.2 with ⟨rfl, _⟩ | ⟨g', off, cap, cur, rfl, hgg, _⟩
  · cases hg
  · cases hg; exact ⟨_, hgg⟩
theorem ORow.below (h : ORow w e v n xs) {B : Nat} (hb : Below B w w') (hB : w.heap.size ≤ B) : ORow w' e v n xs :=
  h.keep (fun g hg => hb.block g (Nat.lt_of_lt_of_le (h.lt g hg) hB))
theorem ORow.turn {S : Nat → Prop} (h : ORow w e v n xs) (ht : Turn S w w') (hs : ∀ g, v.ownBlock = some g → ¬ S g) : ORow w' e v n xs :=
  h.keep (fun g hg => ht.block g (h.lt g hg) (hs g hg))
theorem ORow.two (h : ORow w e v n xs) : (v = .slice none 0 0 ∧ n = 0) ∨ ∃ g off cap, v = .slice (some ⟨g, off, none⟩) n cap ∧ n ≤ cap ∧ cap ≤ 9223372036854775807 := by
  rcases h.2 with hn | ⟨g, off, cap, cur, rfl, hg, h1, h2, _⟩
  · exact .inl hn
  · exact .inr ⟨g, off, cap, rfl, h1, h2⟩
theorem ORow.cells {g off cap : Nat} (h : ORow w e (.slice (some ⟨g, off, none⟩) n cap) n xs) (j : Nat) (u : Value) (hu : xs[j]? = some u) : w.cell? ⟨g, off + j, none⟩ = some u := by
  rcases h.2 with ⟨h0, _⟩ | ⟨g', off', cap', cur, he, hg, h1, h2, h3, h4⟩
  · cases h0
  · cases he
    rw [← h4, List.getElem?_take] at hu
    split at hu
    · rw [List.getElem?_drop] at hu
      exact cell_of_heap hg _ _ (by simpa using hu)
    · cases hu
/-- The first k elements. -/
theorem ORow.pre {g off cap : Nat} (h : ORow w e (.slice (some ⟨g, off, none⟩) n cap) n xs) (k : Nat) (hk : k ≤ n) : ORow w e (.slice (some ⟨g, off, none⟩) k cap) k (xs.take (k * 2)) := by
  refine ⟨by rw [List.length_take, h.1]; omega, ?_⟩
  rcases h.2 with ⟨h0, _⟩ | ⟨g', off', cap', cur, he, hg, h1, h2, h3, h4⟩
  · cases h0
  · cases he
    refine .inr ⟨_, _, _, cur, rfl, hg, by omega, h2, h3, ?_⟩
    rw [← h4, List.take_take]
    congr 1
    omega
/-- What lies behind the first k. -/
theorem ORow.post {g off cap : Nat} (h : ORow w e (.slice (some ⟨g, off, none⟩) n cap) n xs) (k : Nat) (hk : k ≤ n) : ORow w e (.slice (some ⟨g, off + k * 2, none⟩) (n - k) (cap - k)) (n - k) (xs.drop (k * 2)) := by
  refine ⟨by rw [List.length_drop, h.1]; omega, ?_⟩
  rcases h.2 with ⟨h0, _⟩ | ⟨g', off', cap', cur, he, hg, h1, h2, h3, h4⟩
  · cases h0
  · cases he
    refine .inr ⟨_, _, _, cur, rfl, hg, by omega, by omega, by omega, ?_⟩
    rw [← h4, List.drop_take, List.drop_drop]
    congr 1
    omega
end

theorem seg_app (A news D : List Value) (off k : Nat) (h : off + k ≤ A.length) : ((A.take (off + k) ++ news ++ D).drop off).take (k + news.length) = (A.drop off).take k ++ news := by
  have e1 : A.take (off + k) = A.take off ++ (A.drop off).take k := by rw [List.take_add]
  have hl : (A.take off).length = off := by rw [List.length_take]; omega
  have hl2 : ((A.drop off).take k).length = k := by rw [List.length_take, List.length_drop]; omega
  rw [e1, List.append_assoc, List.append_assoc, List.drop_left' hl, ← List.append_assoc]
  exact List.take_left' (by rw [List.length_append, hl2])

section
variable {P : Program} (w : World)

/-- append of one element onto such a row. -/
theorem run_append_o (t ty e : TypeId) (i : TypeInfo) (z : Value) (bytes : Nat) (ht : P.underlying t = some (.slice e)) (hi : P.info? e = some i) (hz : i.zero = some z)
    (hsize : i.size = 2) (hby : i.bytes = bytes) (hzs : z.cells.size = 2)
    (v : Value) (n : Nat) (xs : List Value) (hown : ORow w e v n xs)
    (a : Addr) (c : Nat) (news : List Value) (hl : news.length = 2) (hnews : ∀ j u, news[j]? = some u → w.cell? (a.add j) = some u) (h1 : ∀ u ∈ news, u.oneCell' = true)
    (h63 : n + 1 ≤ maxLen) (hbytes : (n + 1) * bytes ≤ 140737488355328) :
    ∃ v' w', (Builtin.append_ #[t, t] ty #[v, .slice (some a) 1 c]).run P w = .ok v' w' ∧ ORow w' e v' (n + 1) (xs ++ news) ∧ w.grownBy w' v.ownBlock ∧ (v'.ownBlock = v.ownBlock ∨ v'.ownBlock = some w.heap.size) := by
  subst hby
  have hsmall : n + 1 ≤ 9223372036854775807 := by simp only [maxLen] at h63; omega
  have hlen : (xs ++ news).length = (n + 1) * 2 := by rw [List.length_append, hown.1, hl]; omega
  have hl' : news.length = 1 * i.size := by rw [hsize, hl]
  have grown : ∀ (old : Nat), old < n + 1 → ∀ (row : Option Nat),
      ORow (w.drew.alloc (.cells (xs.toArray ++ news.toArray ++ Builtin.zeroCells z.cells (grownCap w (n + 1) old e - (n + 1))) e)) e
        (.slice (some ⟨w.heap.size, 0, none⟩) (n + 1) (grownCap w (n + 1) old e)) (n + 1) (xs ++ news) ∧
      w.grownBy (w.drew.alloc (.cells (xs.toArray ++ news.toArray ++ Builtin.zeroCells z.cells (grownCap w (n + 1) old e - (n + 1))) e)) row := by
    intro old ho row
    have hge := grownCap_ge w (n + 1) old e
    have hcm : grownCap w (n + 1) old e ≤ maxLen := grownCap_le_maxLen w (n + 1) old e h63
    refine ⟨⟨hlen, .inr ⟨w.heap.size, 0, _, _, rfl, heap_alloc_new w.drew _, hge, hcm, ?_, ?_⟩⟩, ⟨rfl, rfl, rfl, by simp, fun k hk _ => Below.heap_alloc w.drew _ k hk⟩⟩
    · simp only [Array.size_append, List.size_toArray, size_zeroCells, hzs, hown.1, hl]
      omega
    · simp only [Array.toList_append, List.append_assoc, List.drop_zero]
      rw [← List.append_assoc, ← hlen]
      exact List.take_left
  rcases hown.2 with ⟨rfl, rfl⟩ | ⟨g, off, cap, cur, rfl, hg, hnc, hcm, hcs, htake⟩
  · have hx : xs = [] := List.eq_nil_of_length_eq_zero (by simpa using hown.1)
    subst hx
    have hr := run_append_nil (P := P) w t ty e i z ht hi hz a 1 c news hl' hnews (by omega) (by omega) (by have hb := hbytes; simp only [Nat.zero_add] at hb; omega)
    have hgr := grown 0 (by omega) (Value.ownBlock (.slice none 0 0))
    simp only [Nat.zero_add, List.nil_append, Array.empty_append] at hgr ⊢
    exact ⟨_, _, hr, hgr.1, hgr.2, .inr rfl⟩
  · by_cases hroom : n + 1 ≤ cap
    · have hf := run_firstCells_some (P := P) w i.size 1 a 1 c news hl' hnews
      have hst := run_storeCells_at P g (off + n * i.size) e news 0 cur w hg (by rw [hsize, hl]; omega) h1
      simp only [Nat.add_zero] at hst
      refine ⟨.slice (some ⟨g, off, none⟩) (n + 1) cap, w.setRow g (cur.toList.take (off + n * i.size) ++ news ++ cur.toList.drop (off + n * i.size + news.length)).toArray, ?_, ⟨hlen, .inr ⟨g, off, cap, _, rfl, setRow_heap w g cur _ e _ hg, hroom, hcm, ?_, ?_⟩⟩, ⟨rfl, rfl, rfl, by simp, fun k _ hk => setRow_other w g k _ (fun e => hk (by simp [Value.ownBlock, e]))⟩, .inl rfl⟩
      · simp [Builtin.append_, run_underlying ht, sizeOf, typeInfo, hi, Builtin.lenOf, hroom, hf, Addr.add_lit, hst]
      · simp only [List.size_toArray, List.length_append, List.length_take, List.length_drop, Array.length_toList, hsize, hl]
        omega
      · rw [hsize, ← htake]
        have := seg_app cur.toList news (cur.toList.drop (off + n * 2 + news.length)) off (n * 2) (by rw [Array.length_toList]; omega)
        rw [← this, hl]
        congr 1
        omega
    · have holds : ∀ j u, xs[j]? = some u → w.cell? ((⟨g, off, none⟩ : Addr).add j) = some u := fun j u hu => by
        rw [Addr.add_lit]
        exact ORow.cells hown j u hu
      have hr := run_append_grow (P := P) w t ty e i z ht hi hz ⟨g, off, none⟩ n cap xs (by rw [hsize]; exact hown.1) holds a 1 c news hl' hnews (by omega) (by omega) (growslice_fits (by omega) hbytes)
      have hgr := grown cap (by omega) (Value.ownBlock (.slice (some ⟨g, off, none⟩) n cap))
      exact ⟨_, _, hr, hgr.1, hgr.2, .inr rfl⟩

/-- clear of the first k elements: what lies behind them stays. -/
theorem run_clear_o (t e : TypeId) (z z0 z1 : Value) (ht : P.underlying t = some (.slice e)) (hv : ∀ w, (zeroValue e).run P w = .ok z w) (hz : z.cells = #[z0, z1]) (h0 : z0.oneCell' = true) (h1 : z1.oneCell' = true)
    (g off n cap k : Nat) (xs : List Value) (hown : ORow w e (.slice (some ⟨g, off, none⟩) n cap) n xs) (hk : k ≤ n) :
    ∃ w', (∀ ty, (Builtin.clear_ #[t] ty #[.slice (some ⟨g, off, none⟩) k cap]).run P w = .ok (.tuple #[]) w') ∧ ORow w' e (.slice (some ⟨g, off + k * 2, none⟩) (n - k) (cap - k)) (n - k) (xs.drop (k * 2)) ∧ w.grownBy w' (some g) ∧ w'.heap.size = w.heap.size := by
  cases k with
  | zero =>
    refine ⟨w, fun ty => by simp [Builtin.clear_, run_underlying ht], ORow.post hown 0 (Nat.zero_le _), ⟨rfl, rfl, rfl, Nat.le_refl _, fun _ _ _ => rfl⟩, rfl⟩
  | succ m =>
    have hp := hown.post (m + 1) hk
    rcases hown.2 with ⟨h0', _⟩ | ⟨g', off', cap', cur, he, hg, h1', h2, h3, h4⟩
    · cases h0'
    · cases he
      have hlz : (Builtin.zeroCells z.cells (m + 1)).toList.length = (m + 1) * 2 := by rw [Array.length_toList, size_zeroCells, hz]; rfl
      have hone : ∀ u ∈ (Builtin.zeroCells z.cells (m + 1)).toList, u.oneCell' = true := by
        intro u hu
        rw [hz] at hu
        simp [Builtin.zeroCells] at hu
        obtain ⟨j, _, rfl⟩ := hu
        rcases Nat.mod_two_eq_zero_or_one j with hj | hj <;> simp [hj, h0, h1]
      have hst := run_storeCells_at P g off e (Builtin.zeroCells z.cells (m + 1)).toList 0 cur w hg (by rw [hlz]; omega) hone
      simp only [Nat.add_zero] at hst
      refine ⟨w.setRow g (cur.toList.take off ++ (Builtin.zeroCells z.cells (m + 1)).toList ++ cur.toList.drop (off + (Builtin.zeroCells z.cells (m + 1)).toList.length)).toArray, ?_, ⟨hp.1, .inr ⟨g, off + (m + 1) * 2, cap - (m + 1), _, rfl, setRow_heap w g cur _ e _ hg, by omega, by omega, ?_, ?_⟩⟩, ⟨rfl, rfl, rfl, by simp, fun k _ hk => setRow_other w g k _ (fun e => hk (by simp [e]))⟩, by simp⟩
      · intro ty
        simp [Builtin.clear_, run_underlying ht, hv, hst]
      · simp only [List.size_toArray, List.length_append, List.length_take, List.length_drop, Array.length_toList] at hlz ⊢
        rw [size_zeroCells, hz] at hlz
        simp at hlz ⊢
        omega
      · have hl : (cur.toList.take off ++ (Builtin.zeroCells z.cells (m + 1)).toList).length = off + (m + 1) * 2 := by rw [List.length_append, hlz, List.length_take, Array.length_toList]; omega
        rw [List.drop_left' hl, hlz, ← h4, List.drop_take, List.drop_drop]
        congr 1
        omega
end

end Go.Proofs.Ytgfbcekmnpdoeaa.Hd
