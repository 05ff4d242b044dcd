/-
  No cell of these rows narrows 'for every input' (looked for: loops, veiled, ifaces, maps, wideKeys, modest, calm, conditions, laid).
  DERIVED. THE GIVEN ROWS OF THIS SEAT. 5 by the template 'for every input the law returns true; each argument reads behind the call as it read before'; 0 by the template 'total and deterministic' (their statements: YtmapaplpoogpfaaTotals.lean).
  GIVEN WITH THE SEED: the statements are not yours to turn. If you find one false, say at which input.
  Laid BY PROGRAM, IN A SANDBOX (cutbox-rows.mjs): the forced cells as the released guide's own fill.sh prints them over the translation a78dc9726a907e1c… (all of the seat's roots in one cut). By AI agents, Wed Nov 11 2026. No macro, syntax, notation, axiom, sorry.
-/
import Derived.Test.YtmapaplpoogpfaaChecked
import GoSem.Claim
import GoSem.ClaimJoined
import GoSem.ClaimMapViews
import Derived.JoinedTies
import Derived.KernelRfl
namespace Go.Proofs.Ytmapaplpoogpfaa
/- THE CELL 'sum', in the pinned program and in every row, IS THE sha256 OF THE DUMP (.gsa) THAT YtmapaplpoogpfaaProg.lean LOADS. Nothing in Lean hashes anything: it is a label: what it is worth is what the hold of that sum in a sandbox is worth. -/
noncomputable def Try.pinned : Pinned := { name := "ytmapaplpoogpfaa", sum := "a78dc9726a907e1cf493c1a092fc562481b679afccbcf918d56b564c4d324b91", checked := Try.checked }
namespace Rows
def none {H : Type} : Left H := { results := [], args := [] }

/-- 'posthorselaw15.HoldPlays': WHATEVER THE INPUT: true; the input reads as it did. -/
def holdPlaysSpec : ChangeSpec := { name := "holdPlays", fn := fun _ => fun
  | [d] => { results := [.lit (.bool true)], args := [d] }
  | _ => none }
def holdPlaysRow : OpenClaim := { program := "ytmapaplpoogpfaa", sum := "a78dc9726a907e1cf493c1a092fc562481b679afccbcf918d56b564c4d324b91", func := "posthorse/posthorselaw15.HoldPlays", spec := "holdPlays", unfollowed := true, recurses := true, apart := false }
def HoldPlaysSaid : Prop := holdPlaysRow.holds Try.pinned (OpenSpec.ofChange holdPlaysSpec)

/-- ITS FALSE NEIGHBOUR: 'it returns false'. Refute it at one input. -/
def holdPlaysWrong : ChangeSpec := { name := "holdPlays", fn := fun _ => fun
  | [d] => { results := [.lit (.bool false)], args := [d] }
  | _ => none }
def HoldPlaysWrongFalsely : Prop := holdPlaysRow.holds Try.pinned (OpenSpec.ofChange holdPlaysWrong)

/-- 'posthorselaw15.HoldNever': WHATEVER THE INPUT: true; the input reads as it did. -/
def holdNeverSpec : ChangeSpec := { name := "holdNever", fn := fun _ => fun
  | [d] => { results := [.lit (.bool true)], args := [d] }
  | _ => none }
def holdNeverRow : OpenClaim := { program := "ytmapaplpoogpfaa", sum := "a78dc9726a907e1cf493c1a092fc562481b679afccbcf918d56b564c4d324b91", func := "posthorse/posthorselaw15.HoldNever", spec := "holdNever", unfollowed := true, recurses := true, apart := false }
def HoldNeverSaid : Prop := holdNeverRow.holds Try.pinned (OpenSpec.ofChange holdNeverSpec)

/-- ITS FALSE NEIGHBOUR: 'it returns false'. Refute it at one input. -/
def holdNeverWrong : ChangeSpec := { name := "holdNever", fn := fun _ => fun
  | [d] => { results := [.lit (.bool false)], args := [d] }
  | _ => none }
def HoldNeverWrongFalsely : Prop := holdNeverRow.holds Try.pinned (OpenSpec.ofChange holdNeverWrong)

/-- 'posthorselaw15.HoldAlone': WHATEVER THE INPUT: true; the input reads as it did. -/
def holdAloneSpec : ChangeSpec := { name := "holdAlone", fn := fun _ => fun
  | [d1, d2] => { results := [.lit (.bool true)], args := [d1, d2] }
  | _ => none }
def holdAloneRow : OpenClaim := { program := "ytmapaplpoogpfaa", sum := "a78dc9726a907e1cf493c1a092fc562481b679afccbcf918d56b564c4d324b91", func := "posthorse/posthorselaw15.HoldAlone", spec := "holdAlone", unfollowed := true, recurses := true, apart := false }
def HoldAloneSaid : Prop := holdAloneRow.holds Try.pinned (OpenSpec.ofChange holdAloneSpec)

/-- ITS FALSE NEIGHBOUR: 'it returns false'. Refute it at one input. -/
def holdAloneWrong : ChangeSpec := { name := "holdAlone", fn := fun _ => fun
  | [d1, d2] => { results := [.lit (.bool false)], args := [d1, d2] }
  | _ => none }
def HoldAloneWrongFalsely : Prop := holdAloneRow.holds Try.pinned (OpenSpec.ofChange holdAloneWrong)

/-- 'posthorselaw15.HoldNil': WHATEVER THE INPUT: true; the input reads as it did. -/
def holdNilSpec : ChangeSpec := { name := "holdNil", fn := fun _ => fun
  | [d] => { results := [.lit (.bool true)], args := [d] }
  | _ => none }
def holdNilRow : OpenClaim := { program := "ytmapaplpoogpfaa", sum := "a78dc9726a907e1cf493c1a092fc562481b679afccbcf918d56b564c4d324b91", func := "posthorse/posthorselaw15.HoldNil", spec := "holdNil", unfollowed := true, recurses := true, apart := false }
def HoldNilSaid : Prop := holdNilRow.holds Try.pinned (OpenSpec.ofChange holdNilSpec)

/-- ITS FALSE NEIGHBOUR: 'it returns false'. Refute it at one input. -/
def holdNilWrong : ChangeSpec := { name := "holdNil", fn := fun _ => fun
  | [d] => { results := [.lit (.bool false)], args := [d] }
  | _ => none }
def HoldNilWrongFalsely : Prop := holdNilRow.holds Try.pinned (OpenSpec.ofChange holdNilWrong)

/-- 'posthorselaw15.HoldOrder': WHATEVER THE INPUT: true; the input reads as it did. -/
def holdOrderSpec : ChangeSpec := { name := "holdOrder", fn := fun _ => fun
  | [d1, d2] => { results := [.lit (.bool true)], args := [d1, d2] }
  | _ => none }
def holdOrderRow : OpenClaim := { program := "ytmapaplpoogpfaa", sum := "a78dc9726a907e1cf493c1a092fc562481b679afccbcf918d56b564c4d324b91", func := "posthorse/posthorselaw15.HoldOrder", spec := "holdOrder", unfollowed := true, recurses := true, apart := false }
def HoldOrderSaid : Prop := holdOrderRow.holds Try.pinned (OpenSpec.ofChange holdOrderSpec)

/-- ITS FALSE NEIGHBOUR: 'it returns false'. Refute it at one input. -/
def holdOrderWrong : ChangeSpec := { name := "holdOrder", fn := fun _ => fun
  | [d1, d2] => { results := [.lit (.bool false)], args := [d1, d2] }
  | _ => none }
def HoldOrderWrongFalsely : Prop := holdOrderRow.holds Try.pinned (OpenSpec.ofChange holdOrderWrong)

/- THE SECOND FORM. 'bulk': how many values and letters a reading holds, each counted each time it is reached (what is shared counts as often as it is met; a slice's spare places count too). A statement '..UptoSaid' is the law's where the arguments, and the package variables that the reading takes, are together of bulk at most 1048576: NARROWER than '..Said'. Prove '..Said' where nothing that the law and all that it calls make is longer than what came in: it says more and counts as full. Else prove '..UptoSaid'. A law counts once. -/
mutual
def uptoBulk {H : Type} : DataW H → Nat
  | .lit (.string bytes) => bytes.length + 1
  | .lit _ => 1
  | .nil => 1
  | .ptr d => uptoBulk d + 1
  | .slice elems spare => uptoBulkAll elems + uptoBulkAll spare + 1
  | .agg parts => uptoBulkAll parts + 1
  | .iface _ d => uptoBulk d + 1
  | .map entries => uptoBulkEntries entries + 1
  | .held _ => 1
def uptoBulkAll {H : Type} : List (DataW H) → Nat
  | [] => 0
  | d :: r => uptoBulk d + uptoBulkAll r
def uptoBulkEntries {H : Type} : List (Lit × DataW H) → Nat
  | [] => 0
  | x :: r => uptoBulkEntry x + uptoBulkEntries r
def uptoBulkEntry {H : Type} : Lit × DataW H → Nat
  | (.string bytes, d) => bytes.length + uptoBulk d + 1
  | (_, d) => uptoBulk d + 1
 end
def uptoSmall : (H : Type) → List (DataW H) → Bool := fun _ ds => decide (uptoBulkAll ds ≤ 1048576)
def OpenSpec.upto (s : _root_.Go.ChangeSpec) : _root_.Go.OpenSpec := { _root_.Go.OpenSpec.ofChange s with cond := some uptoSmall }

/-- 'posthorselaw15.HoldPlays', WHERE WHAT IT READS IS OF BULK AT MOST 1048576: true; the input reads as it did. -/
def holdPlaysUptoRow : OpenClaim := { program := "ytmapaplpoogpfaa", sum := "a78dc9726a907e1cf493c1a092fc562481b679afccbcf918d56b564c4d324b91", func := "posthorse/posthorselaw15.HoldPlays", spec := "holdPlays", unfollowed := true, recurses := true, apart := false, narrowed := true }
def HoldPlaysUptoSaid : Prop := holdPlaysUptoRow.holds Try.pinned (OpenSpec.upto holdPlaysSpec)

/-- 'posthorselaw15.HoldNever', WHERE WHAT IT READS IS OF BULK AT MOST 1048576: true; the input reads as it did. -/
def holdNeverUptoRow : OpenClaim := { program := "ytmapaplpoogpfaa", sum := "a78dc9726a907e1cf493c1a092fc562481b679afccbcf918d56b564c4d324b91", func := "posthorse/posthorselaw15.HoldNever", spec := "holdNever", unfollowed := true, recurses := true, apart := false, narrowed := true }
def HoldNeverUptoSaid : Prop := holdNeverUptoRow.holds Try.pinned (OpenSpec.upto holdNeverSpec)

/-- 'posthorselaw15.HoldAlone', WHERE WHAT IT READS IS OF BULK AT MOST 1048576: true; the input reads as it did. -/
def holdAloneUptoRow : OpenClaim := { program := "ytmapaplpoogpfaa", sum := "a78dc9726a907e1cf493c1a092fc562481b679afccbcf918d56b564c4d324b91", func := "posthorse/posthorselaw15.HoldAlone", spec := "holdAlone", unfollowed := true, recurses := true, apart := false, narrowed := true }
def HoldAloneUptoSaid : Prop := holdAloneUptoRow.holds Try.pinned (OpenSpec.upto holdAloneSpec)

/-- 'posthorselaw15.HoldNil', WHERE WHAT IT READS IS OF BULK AT MOST 1048576: true; the input reads as it did. -/
def holdNilUptoRow : OpenClaim := { program := "ytmapaplpoogpfaa", sum := "a78dc9726a907e1cf493c1a092fc562481b679afccbcf918d56b564c4d324b91", func := "posthorse/posthorselaw15.HoldNil", spec := "holdNil", unfollowed := true, recurses := true, apart := false, narrowed := true }
def HoldNilUptoSaid : Prop := holdNilUptoRow.holds Try.pinned (OpenSpec.upto holdNilSpec)

/-- 'posthorselaw15.HoldOrder', WHERE WHAT IT READS IS OF BULK AT MOST 1048576: true; the input reads as it did. -/
def holdOrderUptoRow : OpenClaim := { program := "ytmapaplpoogpfaa", sum := "a78dc9726a907e1cf493c1a092fc562481b679afccbcf918d56b564c4d324b91", func := "posthorse/posthorselaw15.HoldOrder", spec := "holdOrder", unfollowed := true, recurses := true, apart := false, narrowed := true }
def HoldOrderUptoSaid : Prop := holdOrderUptoRow.holds Try.pinned (OpenSpec.upto holdOrderSpec)

end Rows
end Go.Proofs.Ytmapaplpoogpfaa
