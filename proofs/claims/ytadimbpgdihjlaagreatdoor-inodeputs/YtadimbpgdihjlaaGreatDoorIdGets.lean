/-
  InodeGets of layer 8. Conditions: errors.errorType holds its handle, the table of four steps holds what its initialiser lays.
-/
import Derived.Test.YtadimbpgdihjlaaGreatDoorIdPut
import Derived.Test.YtadimbpgdihjlaaGreatDoorIdSame
namespace Go.Proofs.YtadimbpgdihjlaaGreatDoor.Id
open Go.ChangeShapes Go.WideShapes Go.ChangeAt Go.RowKit Go.Proofs.Fa
open Go.Proofs.YtadimbpgdihjlaaGreatDoor.As (ErrT)
open Go.Proofs.YtadimbpgdihjlaaGreatDoor.Mk (NibAt sealS sealF openF open_seal padS padS_size refseal_any)
open Go.Proofs.YtadimbpgdihjlaaGreatDoor.Le (streq_yes)

set_option maxRecDepth 100000
set_option maxHeartbeats 4000000

theorem cut504 (a : ByteArray) : ∃ la : Nat, (if (504 : Int) < a.size then (504 : Int) else a.size) = (la : Int) ∧ la ≤ a.size ∧ la ≤ 504 ∧ Hid ((a.extract 0 la).size = la) := by
  by_cases h : 504 < a.size
  · exact ⟨504, by rw [if_pos (by omega)]; rfl, by omega, by omega, show _ = _ by simp; omega⟩
  · exact ⟨a.size, by rw [if_neg (by omega)], by omega, by omega, show _ = _ by simp⟩
theorem seal_pad (k : Int) (a b : ByteArray) (h : padS a = padS b) : sealS k a = sealS k b := by
  have h' : a.data.toList ++ List.replicate (504 - a.size) 0 = b.data.toList ++ List.replicate (504 - b.size) 0 := by
    have := congrArg (fun x : ByteArray => x.data.toList) h
    simpa [padS] using this
  have e : Mk.aheadS k a = Mk.aheadS k b := by
    unfold Mk.aheadS Mk.aheadL
    rw [h']
  unfold sealS
  rw [e]
/-- What both hand out: the inode, or none. -/
def lstE (b : ByteArray) (s : Int) : List Ext := if getE b s = 0 then lstG b (cntG b) else []
def verE (b : ByteArray) (s : Int) : Int := if getE b s = 0 then verG b else 0
theorem GetAt.got {w w' : World} {b : ByteArray} {s : Int} {r : Ending} (h : GetAt w b s r w') : ∃ v, r = .returned (.tuple #[ino (verE b s) v, errV (getE b s)]) ∧ Row w' w.heap.size v (lstE b s) ∧ Below w.heap.size w w' := by
  obtain ⟨⟨ver, v, hr, hy, hn⟩, hb⟩ := h
  refine ⟨v, ?_⟩
  unfold verE lstE
  by_cases he : getE b s = 0
  · obtain ⟨rfl, h2⟩ := hy he
    rw [if_pos he, if_pos he]
    exact ⟨hr, h2, hb⟩
  · obtain ⟨rfl, rfl⟩ := hn he
    rw [if_neg he, if_neg he]
    exact ⟨hr, World.ownsRow_nil _ _ _ _, hb⟩
theorem GetAtR.got {w w' : World} {b : ByteArray} {s : Int} {r : Ending} (h : GetAtR w b s r w') : ∃ v, r = .returned (.tuple #[ino (verE b s) v, .int .i64 (getE b s)]) ∧ RowR w' w.heap.size v (lstE b s) ∧ Below w.heap.size w w' := by
  obtain ⟨⟨ver, v, hr, hy, hn⟩, hb⟩ := h
  refine ⟨v, ?_⟩
  unfold verE lstE
  by_cases he : getE b s = 0
  · obtain ⟨rfl, h2⟩ := hy he
    rw [if_pos he, if_pos he]
    exact ⟨hr, h2, hb⟩
  · obtain ⟨rfl, rfl⟩ := hn he
    rw [if_neg he, if_neg he]
    exact ⟨hr, World.ownsRow_nil _ _ _ _, hb⟩
theorem getE_zero {b : ByteArray} {s : Int} (h : getE b s = 0) : cntG b ≤ 36 ∧ restG b (7 + 4 * cntG b) = true ∧ rightB (verG b) (lstG b (cntG b)) s = true := by
  unfold getE at h
  by_cases h1 : 36 < cntG b
  · rw [if_pos h1] at h; cases h
  · rw [if_neg h1] at h
    by_cases h2 : restG b (7 + 4 * cntG b) = true
    · rw [if_pos h2] at h
      by_cases h3 : rightB (verG b) (lstG b (cntG b)) s = true
      · exact ⟨by omega, h2, h3⟩
      · rw [if_neg h3] at h; cases h
    · rw [if_neg h2] at h; cases h

theorem lstE_bd (b : ByteArray) (hb : b.size = 504) (s : Int) : (lstE b s).length ≤ 36 ∧ ∀ e ∈ lstE b s, -9223372036854775808 ≤ e.pos ∧ e.pos ≤ 9223372036854775807 := by
  unfold lstE
  by_cases he : getE b s = 0
  · rw [if_pos he]
    obtain ⟨h1, _, _⟩ := getE_zero he
    exact ⟨by rw [lstG_length]; exact h1, fun e h => by have := lstG_bd b hb _ h1 e h; omega⟩
  · rw [if_neg he]
    exact ⟨by simp, fun e h => by cases h⟩

theorem inodeGets_calls (body : ByteArray) (s : Int) (w : World) (_ : body.size ≤ maxLen) (_ : (Lit.int .i64 s).wf = true) (hE : ErrT w) (hn : NibAt w) :
    Calls Tryz.prog 4 #[.string body, .int .i64 s] w fun r w' => r = .returned (.bool true) ∧ Below w.heap.size w w' := by
  have HE : Hid (ErrT w) := hE
  have HN : Hid (NibAt w) := hn
  clear hE hn
  obtain ⟨la, ea, hla, hl5, HA⟩ := cut504 body
  have hz : (body.extract 0 la).size ≤ 504 := by rw [HA.out]; exact hl5
  have HS : Hid (∀ w, Calls Tryz.prog 15 #[.int .i64 6, .string (body.extract 0 la)] w fun e w' => e = .returned (.tuple #[.string (sealS 6 (body.extract 0 la)), .int .i64 0]) ∧ Below w.heap.size w w') := fun w => by
    have h := refseal_any 6 (body.extract 0 la) w (by rw [HA.out]; unfold maxLen; omega)
    unfold sealF at h
    rw [if_pos (by decide), if_pos hz] at h
    exact h
  have hO : openF 6 (sealS 6 (body.extract 0 la)) = (padS (body.extract 0 la), 0) := open_seal (by decide) (by decide) hz
  have hpz := padS_size hz
  have HG : Hid (∀ w, NibAt w → _) := fun w h => get_any (w := w) _ _ s h hO hpz
  have HQ : Hid (∀ w, _) := fun w => getR_any (w := w) _ _ s hO hpz
  have HBK : Hid (getE (padS (body.extract 0 la)) s = 0 → rightB (verE (padS (body.extract 0 la)) s) (lstE (padS (body.extract 0 la)) s) 2048 = true ∧ sealS 6 (bodyI (verE (padS (body.extract 0 la)) s) (lstE (padS (body.extract 0 la)) s)) = sealS 6 (body.extract 0 la)) := fun h => by
    obtain ⟨h1, h2, h3⟩ := getE_zero h
    unfold verE lstE
    rw [if_pos h, if_pos h]
    exact ⟨right_more h3, seal_pad 6 _ _ (body_back _ hpz h1 h2)⟩
  obtain ⟨hlE, hwE⟩ := lstE_bd _ hpz s
  clear hO hz
  generalize sealS 6 (body.extract 0 la) = sec at *
  generalize padS (body.extract 0 la) = b at *
  have HG1 : Hid (∀ w, NibAt w → Calls Tryz.prog 12 #[.string sec, .int .i64 s] w fun r w' => ∃ v, r = .returned (.tuple #[ino (verE b s) v, errV (getE b s)]) ∧ Row w' w.heap.size v (lstE b s) ∧ Below w.heap.size w w') := fun w h => (HG.out w h).mono fun _ _ => GetAt.got
  have HQ1 : Hid (∀ w, Calls Tryz.prog 13 #[.string sec, .int .i64 s] w fun r w' => ∃ v, r = .returned (.tuple #[ino (verE b s) v, .int .i64 (getE b s)]) ∧ RowR w' w.heap.size v (lstE b s) ∧ Below w.heap.size w w') := fun w => (HQ.out w).mono fun _ _ => GetAtR.got
  clear HG HQ hpz
  generalize verE b s = ver at *
  generalize lstE b s = l at *
  generalize getE b s = e at *
  obtain ⟨n, hln⟩ : ∃ n, l.length = n := ⟨_, rfl⟩
  have HLN : Hid (l.length = n) := hln
  have HWE : Hid (∀ e ∈ l, -9223372036854775808 ≤ e.pos ∧ e.pos ≤ 9223372036854775807) := hwE
  rw [hln] at hlE
  clear hln hwE
  go_enter Tryz.func4, Tryz.ntmps4
  go_wp2_with fail
  refine (speaks_any _).mono ?_
  rintro r w1 ⟨rfl, hb1⟩
  have HB1 : Hid (Below w.heap.size w w1) := hb1
  clear hb1
  go_wp2_with fail
  refine (HS.out _).mono ?_
  rintro r w2 ⟨rfl, hb2⟩
  have HB2 : Hid (Below w.heap.size w w2) := HB1.out.trans (hb2.mono HB1.out.size)
  clear hb2 HB1 HS
  go_wp2_with fail
  refine (HG1.out _ (HN.out.below HB2.out)).mono ?_
  rintro r w3 ⟨v, rfl, hr3, hb3⟩
  obtain ⟨xa, xc, rfl, hmx⟩ := row_slice hr3
  have hx := hr3
  rw [HLN.out] at hx ⊢
  have HB3 : Hid (Below w.heap.size w (w3.alloc (Obj.cells #[.int .i64 ver, .slice xa n xc] 26))) := (HB2.out.trans (hb3.mono HB2.out.size)).alloc (by have := HB2.out.size; have := hb3.size; omega) _
  have HR3 : Hid (Row (w3.alloc (Obj.cells #[.int .i64 ver, .slice xa n xc] 26)) w2.heap.size (.slice xa n xc) l) := World.ownsRow.alloc hx _
  have HY3 : Hid ((w3.alloc (Obj.cells #[.int .i64 ver, .slice xa n xc] 26)).heap[w3.heap.size]? = some (.cells #[.int .i64 ver, .slice xa n xc] 26 (0, 0))) := heap_alloc_new _ _
  clear hb3 hr3 hx hmx HG1 HB2
  simp only [ino]
  go_wp2_with fail
  refine (HQ1.out _).mono ?_
  rintro r w4 ⟨v, rfl, hr4, hb4⟩
  obtain ⟨ya, yc, rfl, hmy⟩ := row_slice hr4
  rw [HLN.out] at hr4 ⊢
  have hB4 : Below w.heap.size w w4 := HB3.out.trans (hb4.mono HB3.out.size)
  have HB5 : Hid (Below w.heap.size w (w4.alloc (Obj.cells #[.int .i64 ver, .slice ya n yc] 29))) := hB4.alloc hB4.size _
  have hR4 : Row w4 w2.heap.size (.slice xa n xc) l := row_below HR3.out hb4 (Nat.le_refl _)
  have HR5 : Hid (Row (w4.alloc (Obj.cells #[.int .i64 ver, .slice ya n yc] 29)) w2.heap.size (.slice xa n xc) l) := World.ownsRow.alloc hR4 _
  have HS5 : Hid (RowR (w4.alloc (Obj.cells #[.int .i64 ver, .slice ya n yc] 29)) _ (.slice ya n yc) l) := World.ownsRow.alloc hr4 _
  have hY4 : w4.heap[w3.heap.size]? = some (.cells #[.int .i64 ver, .slice xa n xc] 26 (0, 0)) := (hb4.block _ (lt_of_heap HY3.out)).trans HY3.out
  have HY5 : Hid ((w4.alloc (Obj.cells #[.int .i64 ver, .slice ya n yc] 29)).heap[w3.heap.size]? = some (.cells #[.int .i64 ver, .slice xa n xc] 26 (0, 0))) := (Below.heap_alloc _ _ _ (lt_of_heap hY4)).trans hY4
  have HZ5 : Hid ((w4.alloc (Obj.cells #[.int .i64 ver, .slice ya n yc] 29)).heap[w4.heap.size]? = some (.cells #[.int .i64 ver, .slice ya n yc] 29 (0, 0))) := heap_alloc_new _ _
  have hsm := same_any (w := w4.alloc (Obj.cells #[.int .i64 ver, .slice ya n yc] 29)) ver _ _ l HR5.out HS5.out (by rw [HLN.out]; omega)
  clear hb4 hr4 hmy hB4 hR4 hY4 HQ1 HB3 HR3 HY3 HS5
  simp only [ino] at hsm ⊢
  obtain ⟨a0, a1, _, _⟩ := agg2 HY5.out
  obtain ⟨b0, b1, _, _⟩ := agg2 HZ5.out
  have hC := fun w hE => code_any e w hE
  by_cases he : e = 0
  · obtain ⟨hri, hbk⟩ := HBK.out he
    subst he
    rw [show errV 0 = .nilIface from rfl] at hC ⊢
    go_wp2_with fail
    refine hsm.mono ?_
    rintro r w6 ⟨rfl, hb6⟩
    have HB6 : Hid (Below w.heap.size w w6) := HB5.out.trans (hb6.mono HB5.out.size)
    have HR6 : Hid (Row w6 w2.heap.size (.slice xa n xc) l) := row_below HR5.out hb6 (Nat.le_refl _)
    have HY6 : Hid (w6.heap[w3.heap.size]? = some (.cells #[.int .i64 ver, .slice xa n xc] 26 (0, 0))) := (hb6.block _ (lt_of_heap HY5.out)).trans HY5.out
    clear hb6 hsm HB5 HR5 HY5 HZ5 a0 a1 b0 b1
    go_wp2_with fail
    refine (hC _ (HE.out.below HB6.out HE.out.lt)).mono ?_
    rintro r w7 ⟨rfl, hb7⟩
    have HB7 : Hid (Below w.heap.size w w7) := HB6.out.trans (hb7.mono HB6.out.size)
    have HR7 : Hid (Row w7 w2.heap.size (.slice xa n xc) l) := row_below HR6.out hb7 (Nat.le_refl _)
    have HY7 : Hid (w7.heap[w3.heap.size]? = some (.cells #[.int .i64 ver, .slice xa n xc] 26 (0, 0))) := (hb7.block _ (lt_of_heap HY6.out)).trans HY6.out
    clear hb7 hC HB6 HR6 HY6
    obtain ⟨a0, a1, _, _⟩ := agg2 HY7.out
    have hP := put_yes (w := w7) ver (.slice xa n xc) l HR7.out HWE.out hri (HN.out.below HB7.out)
    rw [hbk] at hP
    simp only [ino] at hP
    have hq0 : (sec.toList == sec.toList) = true := streq_yes rfl
    clear hri hbk
    go_wp2_with fail
    refine hP.mono ?_
    rintro r w8 ⟨rfl, hb8⟩
    have HB8 : Hid (Below w.heap.size w w8) := HB7.out.trans (hb8.mono HB7.out.size)
    clear hb8 hP
    go_wp2
    go_ret
    exact ⟨rfl, HB8.out⟩
  · have hne : (e == 0) = false := by simpa using he
    generalize errV e = ev at *
    go_wp2_with fail
    refine hsm.mono ?_
    rintro r w6 ⟨rfl, hb6⟩
    have HB6 : Hid (Below w.heap.size w w6) := HB5.out.trans (hb6.mono HB5.out.size)
    clear hb6 hsm HB5 HR5 HY5 HZ5 a0 a1 b0 b1
    go_wp2_with fail
    refine (hC _ (HE.out.below HB6.out HE.out.lt)).mono ?_
    rintro r w7 ⟨rfl, hb7⟩
    have HB7 : Hid (Below w.heap.size w w7) := HB6.out.trans (hb7.mono HB6.out.size)
    clear hb7 hC HB6
    go_wp2
    go_ret
    exact ⟨rfl, HB7.out⟩

end Go.Proofs.YtadimbpgdihjlaaGreatDoor.Id
