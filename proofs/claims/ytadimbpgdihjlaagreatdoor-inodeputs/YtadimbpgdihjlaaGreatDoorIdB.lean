/-
  An inode's bytes; a body that is an inode's is that inode's bytes. No condition.
-/
import Derived.Test.YtadimbpgdihjlaaGreatDoorIdGet
namespace Go.Proofs.YtadimbpgdihjlaaGreatDoor.Id
open Go.ChangeShapes Go.WideShapes Go.ChangeAt Go.RowKit Go.Proofs.Fa
open Go.Proofs.YtadimbpgdihjlaaGreatDoor.Le (putF getF leVal numF textF getF_putF putF_in)
open Go.Proofs.YtadimbpgdihjlaaGreatDoor.Mk (ext_bytes extract_data padS)

theorem leVal_inj : ∀ (l m : List UInt8), l.length = m.length → leVal l = leVal m → l = m
  | [], [], _, _ => rfl
  | [], _ :: _, h, _ => by cases h
  | _ :: _, [], h, _ => by cases h
  | a :: l, c :: m, h, e => by
    simp only [leVal] at e
    have ha := a.toNat_lt
    have hc := c.toNat_lt
    have h1 : a.toNat = c.toNat := by omega
    have h2 : leVal l = leVal m := by omega
    rw [UInt8.toNat_inj.1 h1, leVal_inj l m (by simpa using h) h2]
theorem putF_getF (a : ByteArray) (k : Nat) (h1 : 1 ≤ k) (h7 : k ≤ 7) (ha : a.size = k) : putF (getF a) k = a := by
  obtain ⟨g0, g1⟩ := getF_lt a k ha h7
  obtain ⟨_, hz, hn⟩ := putF_in (x := getF a) (k := k) (by omega) (by omega) g0 (by rw [show (8 * (k : Int)).toNat = 8 * k by omega]; exact g1)
  have hg := getF_putF hn
  rw [Int.toNat_natCast] at hz
  rw [Le.getF_yes (b := putF (getF a) k) (by omega), Le.getF_yes (b := a) (by omega)] at hg
  have hgn : leVal (putF (getF a) k).data.toList = leVal a.data.toList := by
    rw [← Le.getF_yes (b := a) (by omega)] at hg
    have hh : (leVal (putF (getF a) k).data.toList : Int) = leVal a.data.toList := by rw [← Le.getF_yes (b := a) (by omega)]; exact hg
    exact_mod_cast hh
  exact ext_bytes (leVal_inj _ _ (by rw [len_of hz, len_of ha]) hgn)

/-- The bytes of extents. -/
def extB (l : List Ext) : List UInt8 := l.flatMap fun e => (putF e.pos 2).data.toList ++ (putF e.len 2).data.toList
theorem extB_append (l m : List Ext) : extB (l ++ m) = extB l ++ extB m := by simp [extB]
/-- The bytes of an inode, its first extents alone. -/
def bytI (ver : Int) (l : List Ext) (k : Nat) : List UInt8 := (putF ver 6).data.toList ++ ((putF l.length 1).data.toList ++ extB (l.take k))
def partI (ver : Int) (l : List Ext) (k : Nat) : ByteArray := ⟨(bytI ver l k).toArray⟩
def bodyI (ver : Int) (l : List Ext) : ByteArray := partI ver l l.length

theorem bytI_zero (ver : Int) (l : List Ext) : bytI ver l 0 = (putF ver 6).data.toList ++ (putF l.length 1).data.toList := by
  unfold bytI extB; simp
theorem bytI_succ (ver : Int) (l : List Ext) (k : Nat) (hk : k < l.length) : bytI ver l (k + 1) = bytI ver l k ++ (putF l[k].pos 2).data.toList ++ (putF l[k].len 2).data.toList := by
  unfold bytI
  rw [List.take_succ_eq_append_getElem hk, extB_append]
  simp [extB]
theorem partI_data (ver : Int) (l : List Ext) (k : Nat) : (partI ver l k).data.toList = bytI ver l k := by simp [partI]
theorem partI_zero (ver : Int) (l : List Ext) : putF ver 6 ++ putF l.length 1 = partI ver l 0 := by
  apply ext_bytes
  rw [partI_data, bytI_zero, ByteArray.data_append, Array.toList_append]
theorem partI_succ (ver : Int) (l : List Ext) (k : Nat) (hk : k < l.length) : partI ver l k ++ (putF l[k].pos 2 ++ putF l[k].len 2) = partI ver l (k + 1) := by
  apply ext_bytes
  rw [partI_data, bytI_succ ver l k hk, ByteArray.data_append, Array.toList_append, ByteArray.data_append, Array.toList_append, partI_data, List.append_assoc]

/-- A number that fits goes behind what there is. -/
theorem numF_in (xs : List UInt8) (n : Int) (k : Nat) (h1 : 1 ≤ k) (h7 : k ≤ 7) (h0 : 0 ≤ n) (h : n < 2 ^ (8 * k)) : numF (some xs) n k = some (xs ++ (putF n k).data.toList) ∧ (putF n k).data.toList.length = k := by
  obtain ⟨_, hz, hn⟩ := putF_in (x := n) (k := k) (by omega) (by omega) h0 (by rw [show (8 * (k : Int)).toNat = 8 * k by omega]; exact h)
  rw [Int.toNat_natCast] at hz
  refine ⟨?_, len_of hz⟩
  unfold numF
  rw [if_neg hn]
  show (if ((putF n k).size : Int) ≤ k then some (xs ++ (putF n k).data.toList ++ List.replicate ((k : Int) - (putF n k).size).toNat 0) else none) = _
  rw [hz, if_pos (by omega), Int.sub_self]
  simp

theorem right_parts {ver : Int} {l : List Ext} {s : Int} (h : rightB ver l s = true) : 0 ≤ ver ∧ ver < 281474976710656 ∧ l.length ≤ 36 ∧ OkL l := by
  unfold rightB at h
  simp only [Bool.and_eq_true, decide_eq_true_eq] at h
  obtain ⟨h1, h2, h3, h4, h5, h6⟩ := h
  refine ⟨h3, h4, h5, ?_⟩
  have := fitB_ok h6 h2 (Nat.le_refl _)
  rw [List.take_length] at this
  exact this
theorem extB_length {l : List Ext} (h : OkL l) : (extB l).length = 4 * l.length := by
  induction l with
  | nil => rfl
  | cons e r ih =>
    have he := h e (List.mem_cons_self ..)
    unfold Ok at he
    have h1 := (numF_in [] e.pos 2 (by decide) (by decide) he.1 (by show e.pos < 65536; omega)).2
    have h2 := (numF_in [] e.len 2 (by decide) (by decide) (by omega) (by show e.len < 65536; omega)).2
    have ih' := ih (fun x hx => h x (List.mem_cons_of_mem _ hx))
    rw [show e :: r = [e] ++ r from rfl, extB_append, List.length_append, ih', List.length_append]
    have : (extB [e]).length = 4 := by
      simp only [extB, List.flatMap_cons, List.flatMap_nil, List.append_nil, List.length_append]
      exact (congr (congrArg HAdd.hAdd h1) h2)
    rw [this]
    simp only [List.length_cons, List.length_nil]
    omega
theorem bytI_length {ver : Int} {l : List Ext} (h0 : 0 ≤ ver) (h1 : ver < 281474976710656) (hl : l.length ≤ 36) (ho : OkL l) (k : Nat) (hk : k ≤ l.length) : (bytI ver l k).length = 7 + 4 * k := by
  have a1 := (numF_in [] ver 6 (by decide) (by decide) h0 (by show ver < 281474976710656; omega)).2
  have a2 := (numF_in [] l.length 1 (by decide) (by decide) (by omega) (by show (l.length : Int) < 256; omega)).2
  have a3 := extB_length (l := l.take k) (fun e he => ho e (List.mem_of_mem_take he))
  rw [List.length_take, Nat.min_eq_left hk] at a3
  unfold bytI
  rw [List.length_append, List.length_append, a3]
  have : ((putF ver 6).data.toList).length = 6 := a1
  have : ((putF l.length 1).data.toList).length = 1 := a2
  omega
theorem bodyI_size {ver : Int} {l : List Ext} {s : Int} (h : rightB ver l s = true) : (bodyI ver l).size ≤ 504 := by
  obtain ⟨h0, h1, h2, h3⟩ := right_parts h
  have := bytI_length h0 h1 h2 h3 l.length (Nat.le_refl _)
  have hs : (bodyI ver l).size = (bytI ver l l.length).length := by simp [bodyI, partI, ByteArray.size]
  omega

/-- What is right for a device is right for the greatest one. -/
theorem right_more {ver : Int} {l : List Ext} {s : Int} (h : rightB ver l s = true) : rightB ver l 2048 = true := by
  unfold rightB at *
  simp only [Bool.and_eq_true, decide_eq_true_eq] at *
  obtain ⟨h1, h2, h3, h4, h5, h6⟩ := h
  refine ⟨by decide, by decide, h3, h4, h5, ?_⟩
  unfold fitB at *
  rw [List.all_eq_true] at *
  intro i hi
  have := h6 i hi
  cases hli : l[i]? with
  | none => rfl
  | some e =>
    rw [hli] at this
    simp only [Bool.and_eq_true] at this ⊢
    refine ⟨?_, this.2⟩
    have h7 := this.1
    unfold belowF at h7 ⊢
    simp only [Bool.and_eq_true, decide_eq_true_eq] at h7 ⊢
    omega

theorem extB_of (b : ByteArray) (hb : b.size = 504) (n : Nat) (hn : n ≤ 36) : extB (lstG b n) = (b.data.toList.drop 7).take (4 * n) := by
  induction n with
  | zero => rfl
  | succ n ih =>
    rw [lstG_succ, extB_append, ih (by omega), show 4 * (n + 1) = 4 * n + 4 by omega, List.take_add, List.drop_drop]
    congr 1
    have e1 : putF (extG b n).pos 2 = b.extract (7 + 4 * n) (9 + 4 * n) := putF_getF _ 2 (by decide) (by decide) (by rw [ext_size b _ _ (by omega)]; omega)
    have e2 : putF (extG b n).len 2 = b.extract (9 + 4 * n) (11 + 4 * n) := putF_getF _ 2 (by decide) (by decide) (by rw [ext_size b _ _ (by omega)]; omega)
    simp only [extB, List.flatMap_cons, List.flatMap_nil, List.append_nil]
    have e4 : ∀ X : List UInt8, X.take 4 = X.take 2 ++ (X.drop 2).take 2 := fun X => List.take_add (l := X) (i := 2) (j := 2)
    rw [e1, e2, extract_data, extract_data, show 9 + 4 * n - (7 + 4 * n) = 2 by omega, show 11 + 4 * n - (9 + 4 * n) = 2 by omega, e4, List.drop_drop, show 7 + 4 * n + 2 = 9 + 4 * n by omega]
/-- A body that is read as an inode is that inode's bytes. -/
theorem body_back (b : ByteArray) (hb : b.size = 504) (hn : cntG b ≤ 36) (hr : restG b (7 + 4 * cntG b) = true) : padS (bodyI (verG b) (lstG b (cntG b))) = b := by
  have hl := len_of hb
  have e1 : putF (verG b) 6 = b.extract 0 6 := putF_getF _ 6 (by decide) (by decide) (by rw [ext_size b _ _ (by omega)])
  have e2 : putF (cntG b : Int) 1 = b.extract 6 7 := by
    rw [← cntG_get b hb]
    exact putF_getF _ 1 (by decide) (by decide) (by rw [ext_size b _ _ (by omega)])
  have hbytes : bytI (verG b) (lstG b (cntG b)) (lstG b (cntG b)).length = b.data.toList.take (7 + 4 * cntG b) := by
    unfold bytI
    rw [List.take_length, extB_of b hb _ hn, lstG_length, e1, e2, extract_data, extract_data, List.drop_zero]
    rw [show 7 + 4 * cntG b = 6 + (1 + 4 * cntG b) by omega, List.take_add, List.take_add, List.drop_drop]
  have hsz : (bodyI (verG b) (lstG b (cntG b))).size = 7 + 4 * cntG b := by
    have : (bodyI (verG b) (lstG b (cntG b))).size = (bytI (verG b) (lstG b (cntG b)) (lstG b (cntG b)).length).length := by simp [bodyI, partI, ByteArray.size]
    rw [this, hbytes, List.length_take, hl]
    omega
  apply ext_bytes
  show (List.toArray _).toList = _
  rw [List.toList_toArray, hsz]
  show (List.toArray _).toList ++ _ = _
  rw [List.toList_toArray, hbytes]
  have hd : b.data.toList.drop (7 + 4 * cntG b) = List.replicate (504 - (7 + 4 * cntG b)) 0 := by
    rw [List.eq_replicate_iff]; refine ⟨?_, ?_⟩
    · rw [List.length_drop, hl]
    · unfold restG at hr
      rw [List.all_eq_true] at hr
      intro x hx
      have := hr x hx
      simpa using this
  rw [← hd, List.take_append_drop]

end Go.Proofs.YtadimbpgdihjlaaGreatDoor.Id
