/-
  A device one of whose commands is submitted and completed at once, and what is found behind. Of no program. No condition.
-/
import Derived.Test.YtkfphmhnaelflaaNvF
namespace Go.Proofs.Ytkfphmhnaelflaa.Nv
open Go.RowKit

theorem bare_write {c : Cmd} (h : isW c = true) : bareF c = c := by
  obtain ⟨kd, s, dt, tg⟩ := c
  have h4 : kd ≠ 4 := by rintro rfl; simp [isW] at h
  simp [bareF, h, h4]
/-- A write that is taken. -/
theorem submit_write {d : Dev} {c : Cmd} (hc : isW c = true) (hd : d.down = false) (hs : 0 ≤ c.sector ∧ c.sector < d.lasting.length) (hz : c.data.size = 512) (hq : (d.waiting.length : Int) < d.depth) :
    submitN d c = 0 ∧ submitF d c = { d with waiting := d.waiting ++ [c] } := by
  have hn : submitN d c = 0 := by
    unfold submitN
    rw [bare_write hc, hd]
    have hk : c.kind = 2 ∨ c.kind = 3 := by
      simp only [isW, Bool.or_eq_true, beq_iff_eq] at hc
      exact hc
    rw [if_neg (by decide), if_neg (by
      intro h
      rcases h with h | h | ⟨_, h⟩
      · omega
      · omega
      · exact h hs), if_neg (fun h => h.2 hz), if_neg (by omega)]
  refine ⟨hn, ?_⟩
  unfold submitF
  rw [if_pos hn, bare_write hc]
/-- The one that waits alone is completed. -/
theorem complete_alone {d : Dev} {c : Cmd} (hd : d.down = false) (hw : d.waiting = [c]) (hf : d.failAt = 0) : completeF d 0 = ((finishF { d with waiting := [] } c).1, (finishF { d with waiting := [] } c).2, 0) := by
  have ht : tickF d = d := by unfold tickF; rw [if_pos hf]
  unfold completeF
  rw [hd, if_neg (by decide), if_neg (by rw [hw]; simp), if_neg (by simp [failsF, hf])]
  obtain ⟨dp, las, cac, wai, dn, fa, kp, r, wr, fl⟩ := d
  simp only at hw hd ht
  subst hw hd
  simp only [ht]
  rfl
theorem find_none {las : List ByteArray} {cache : List Cmd} {s : Int} (h : ∀ c ∈ cache, c.sector ≠ s) : findL las cache s = (las[s.toNat]?).getD ⟨#[]⟩ := by
  unfold findL
  rw [List.find?_eq_none.2 (by
    intro c hc
    have := h c (List.mem_reverse.1 hc)
    simpa using this)]

end Go.Proofs.Ytkfphmhnaelflaa.Nv
