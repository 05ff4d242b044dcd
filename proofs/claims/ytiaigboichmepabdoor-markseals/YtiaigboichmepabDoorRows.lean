/-
  NARROWER THAN 'FOR EVERY INPUT', by the rows' own cells (each row's printed sentence says how): MarkSums: laid · MarkSeals: laid · MarkOpens: laid · MarkSpoilt: laid · MarkApart: laid.
  DERIVED. THE GIVEN ROWS OF THIS SEAT. 5 by the template 'for every input the law returns true; each argument reads behind the call as it read before'; 0 by the template 'total and deterministic' (their statements: YtiaigboichmepabDoorTotals.lean).
  GIVEN WITH THE SEED: the statements are not yours to turn. If you find one false, say at which input.
  Laid BY PROGRAM, IN A SANDBOX (cutbox-rows.mjs): the forced cells as the released guide's own fill.sh prints them over the translation a3eef50b22f4202b… (all of the seat's roots in one cut). By AI agents, Wed Nov 11 2026. No macro, syntax, notation, axiom, sorry.
-/
import Derived.Test.YtiaigboichmepabDoorChecked
import GoSem.Claim
import GoSem.ClaimJoined
import GoSem.ClaimMapViews
import Derived.JoinedTies
import Derived.KernelRfl
namespace Go.Proofs.YtiaigboichmepabDoor
/- THE CELL 'sum', in the pinned program and in every row, IS THE sha256 OF THE DUMP (.gsa) THAT YtiaigboichmepabDoorProg.lean LOADS. Nothing in Lean hashes anything: it is a label: what it is worth is what the hold of that sum in a sandbox is worth. -/
noncomputable def Tryd.pinned : Pinned := { name := "ytiaigboichmepabdoor", sum := "a3eef50b22f4202b4ecfaebced8acede8215cbe0fad753532e7846fbbebd0d49", checked := Tryd.checked }
namespace Rows
def none {H : Type} : Left H := { results := [], args := [] }

/- WHAT THE LISTED PACKAGE-LEVEL VARIABLES READ AS WHEN THE CALL BEGINS. Each datum BY PROGRAM (the guide's laid-datum.mjs) off the statement by which the dump's own 'gosem.cut.vars' lays the variable. In a bare row this is a premise. The card (YtiaigboichmepabDoorCards.lean) ties it to the program's text. -/
def laid_posthorse_mark_nibbles {H : Type} : DataW H := .agg [.lit (.int .u32 0), .lit (.int .u32 274646895), .lit (.int .u32 549293790), .lit (.int .u32 820201905), .lit (.int .u32 1098587580), .lit (.int .u32 1361435347), .lit (.int .u32 1640403810), .lit (.int .u32 1905808397), .lit (.int .u32 2197175160), .lit (.int .u32 2460548119), .lit (.int .u32 2722870694), .lit (.int .u32 2987750089), .lit (.int .u32 3280807620), .lit (.int .u32 3553878443), .lit (.int .u32 3811616794), .lit (.int .u32 4084100981)]
def laid_errors_errorType {H : Type} : DataW H := .iface "internal/reflectlite.rtype" (.agg [.ptr (.lit (.string [101, 114, 114, 111, 114]))])

/-- 'posthorselaw03.MarkSums': WHATEVER THE INPUT: true; the input reads as it did. -/
def markSumsSpec : ChangeSpec := { name := "markSums", fn := fun _ => fun
  | [d] => { results := [.lit (.bool true)], args := [d] }
  | _ => none }
def markSumsRow : OpenClaim := { program := "ytiaigboichmepabdoor", sum := "a3eef50b22f4202b4ecfaebced8acede8215cbe0fad753532e7846fbbebd0d49", func := "posthorse/posthorselaw03.MarkSums", spec := "markSums", named := ["posthorse/mark.nibbles"], apart := false, laid := [("posthorse/mark.nibbles", laid_posthorse_mark_nibbles)] }
def MarkSumsSaid : Prop := markSumsRow.holds Tryd.pinned (OpenSpec.ofChange markSumsSpec)

/-- ITS FALSE NEIGHBOUR: 'it returns false'. Refute it at one input. -/
def markSumsWrong : ChangeSpec := { name := "markSums", fn := fun _ => fun
  | [d] => { results := [.lit (.bool false)], args := [d] }
  | _ => none }
def MarkSumsWrongFalsely : Prop := markSumsRow.holds Tryd.pinned (OpenSpec.ofChange markSumsWrong)

/-- 'posthorselaw03.MarkSeals': WHATEVER THE INPUT: true; the input reads as it did. -/
def markSealsSpec : ChangeSpec := { name := "markSeals", fn := fun _ => fun
  | [d1, d2] => { results := [.lit (.bool true)], args := [d1, d2] }
  | _ => none }
def markSealsRow : OpenClaim := { program := "ytiaigboichmepabdoor", sum := "a3eef50b22f4202b4ecfaebced8acede8215cbe0fad753532e7846fbbebd0d49", func := "posthorse/posthorselaw03.MarkSeals", spec := "markSeals", inPlace := ["internal/reflectlite.ValueOf", "(internal/reflectlite.Value).Type", "(internal/reflectlite.Value).IsNil", "internal/reflectlite.TypeOf", "(internal/reflectlite.Value).Elem", "(internal/reflectlite.Value).Set"], unfollowed := true, recurses := true, named := ["posthorse/mark.nibbles", "errors.errorType"], apart := false, laid := [("errors.errorType", laid_errors_errorType), ("posthorse/mark.nibbles", laid_posthorse_mark_nibbles)] }
def MarkSealsSaid : Prop := markSealsRow.holds Tryd.pinned (OpenSpec.ofChange markSealsSpec)

/-- ITS FALSE NEIGHBOUR: 'it returns false'. Refute it at one input. -/
def markSealsWrong : ChangeSpec := { name := "markSeals", fn := fun _ => fun
  | [d1, d2] => { results := [.lit (.bool false)], args := [d1, d2] }
  | _ => none }
def MarkSealsWrongFalsely : Prop := markSealsRow.holds Tryd.pinned (OpenSpec.ofChange markSealsWrong)

/-- 'posthorselaw03.MarkOpens': WHATEVER THE INPUT: true; the input reads as it did. -/
def markOpensSpec : ChangeSpec := { name := "markOpens", fn := fun _ => fun
  | [d1, d2] => { results := [.lit (.bool true)], args := [d1, d2] }
  | _ => none }
def markOpensRow : OpenClaim := { program := "ytiaigboichmepabdoor", sum := "a3eef50b22f4202b4ecfaebced8acede8215cbe0fad753532e7846fbbebd0d49", func := "posthorse/posthorselaw03.MarkOpens", spec := "markOpens", inPlace := ["internal/reflectlite.ValueOf", "(internal/reflectlite.Value).Type", "(internal/reflectlite.Value).IsNil", "internal/reflectlite.TypeOf", "(internal/reflectlite.Value).Elem", "(internal/reflectlite.Value).Set"], unfollowed := true, recurses := true, named := ["posthorse/mark.nibbles", "errors.errorType"], apart := false, laid := [("errors.errorType", laid_errors_errorType), ("posthorse/mark.nibbles", laid_posthorse_mark_nibbles)] }
def MarkOpensSaid : Prop := markOpensRow.holds Tryd.pinned (OpenSpec.ofChange markOpensSpec)

/-- ITS FALSE NEIGHBOUR: 'it returns false'. Refute it at one input. -/
def markOpensWrong : ChangeSpec := { name := "markOpens", fn := fun _ => fun
  | [d1, d2] => { results := [.lit (.bool false)], args := [d1, d2] }
  | _ => none }
def MarkOpensWrongFalsely : Prop := markOpensRow.holds Tryd.pinned (OpenSpec.ofChange markOpensWrong)

/-- 'posthorselaw03.MarkSpoilt': WHATEVER THE INPUT: true; the input reads as it did. -/
def markSpoiltSpec : ChangeSpec := { name := "markSpoilt", fn := fun _ => fun
  | [d1, d2, d3] => { results := [.lit (.bool true)], args := [d1, d2, d3] }
  | _ => none }
def markSpoiltRow : OpenClaim := { program := "ytiaigboichmepabdoor", sum := "a3eef50b22f4202b4ecfaebced8acede8215cbe0fad753532e7846fbbebd0d49", func := "posthorse/posthorselaw03.MarkSpoilt", spec := "markSpoilt", named := ["posthorse/mark.nibbles"], apart := false, laid := [("posthorse/mark.nibbles", laid_posthorse_mark_nibbles)] }
def MarkSpoiltSaid : Prop := markSpoiltRow.holds Tryd.pinned (OpenSpec.ofChange markSpoiltSpec)

/-- ITS FALSE NEIGHBOUR: 'it returns false'. Refute it at one input. -/
def markSpoiltWrong : ChangeSpec := { name := "markSpoilt", fn := fun _ => fun
  | [d1, d2, d3] => { results := [.lit (.bool false)], args := [d1, d2, d3] }
  | _ => none }
def MarkSpoiltWrongFalsely : Prop := markSpoiltRow.holds Tryd.pinned (OpenSpec.ofChange markSpoiltWrong)

/-- 'posthorselaw03.MarkApart': WHATEVER THE INPUT: true; the input reads as it did. -/
def markApartSpec : ChangeSpec := { name := "markApart", fn := fun _ => fun
  | [d1, d2, d3] => { results := [.lit (.bool true)], args := [d1, d2, d3] }
  | _ => none }
def markApartRow : OpenClaim := { program := "ytiaigboichmepabdoor", sum := "a3eef50b22f4202b4ecfaebced8acede8215cbe0fad753532e7846fbbebd0d49", func := "posthorse/posthorselaw03.MarkApart", spec := "markApart", named := ["posthorse/mark.nibbles"], apart := false, laid := [("posthorse/mark.nibbles", laid_posthorse_mark_nibbles)] }
def MarkApartSaid : Prop := markApartRow.holds Tryd.pinned (OpenSpec.ofChange markApartSpec)

/-- ITS FALSE NEIGHBOUR: 'it returns false'. Refute it at one input. -/
def markApartWrong : ChangeSpec := { name := "markApart", fn := fun _ => fun
  | [d1, d2, d3] => { results := [.lit (.bool false)], args := [d1, d2, d3] }
  | _ => none }
def MarkApartWrongFalsely : Prop := markApartRow.holds Tryd.pinned (OpenSpec.ofChange markApartWrong)

/- THE SECOND FORM. 'bulk': how many values and letters a reading holds, each counted each time it is reached (what is shared counts as often as it is met; a slice's spare places count too). A statement '..UptoSaid' is the law's where the arguments, and the package variables that the reading takes, are together of bulk at most 1048576: NARROWER than '..Said'. Prove '..Said' where nothing that the law and all that it calls make is longer than what came in: it says more and counts as full. Else prove '..UptoSaid'. A law counts once. -/
mutual
def uptoBulk {H : Type} : DataW H → Nat
  | .lit (.string bytes) => bytes.length + 1
  | .lit _ => 1
  | .nil => 1
  | .ptr d => uptoBulk d + 1
  | .slice elems spare => uptoBulkAll elems + uptoBulkAll spare + 1
  | .agg parts => uptoBulkAll parts + 1
  | .iface _ d => uptoBulk d + 1
  | .map entries => uptoBulkEntries entries + 1
  | .held _ => 1
def uptoBulkAll {H : Type} : List (DataW H) → Nat
  | [] => 0
  | d :: r => uptoBulk d + uptoBulkAll r
def uptoBulkEntries {H : Type} : List (Lit × DataW H) → Nat
  | [] => 0
  | x :: r => uptoBulkEntry x + uptoBulkEntries r
def uptoBulkEntry {H : Type} : Lit × DataW H → Nat
  | (.string bytes, d) => bytes.length + uptoBulk d + 1
  | (_, d) => uptoBulk d + 1
 end
def uptoSmall : (H : Type) → List (DataW H) → Bool := fun _ ds => decide (uptoBulkAll ds ≤ 1048576)
def OpenSpec.upto (s : _root_.Go.ChangeSpec) : _root_.Go.OpenSpec := { _root_.Go.OpenSpec.ofChange s with cond := some uptoSmall }

/-- 'posthorselaw03.MarkSums', WHERE WHAT IT READS IS OF BULK AT MOST 1048576: true; the input reads as it did. -/
def markSumsUptoRow : OpenClaim := { program := "ytiaigboichmepabdoor", sum := "a3eef50b22f4202b4ecfaebced8acede8215cbe0fad753532e7846fbbebd0d49", func := "posthorse/posthorselaw03.MarkSums", spec := "markSums", named := ["posthorse/mark.nibbles"], apart := false, laid := [("posthorse/mark.nibbles", laid_posthorse_mark_nibbles)], narrowed := true }
def MarkSumsUptoSaid : Prop := markSumsUptoRow.holds Tryd.pinned (OpenSpec.upto markSumsSpec)

/-- 'posthorselaw03.MarkSeals', WHERE WHAT IT READS IS OF BULK AT MOST 1048576: true; the input reads as it did. -/
def markSealsUptoRow : OpenClaim := { program := "ytiaigboichmepabdoor", sum := "a3eef50b22f4202b4ecfaebced8acede8215cbe0fad753532e7846fbbebd0d49", func := "posthorse/posthorselaw03.MarkSeals", spec := "markSeals", inPlace := ["internal/reflectlite.ValueOf", "(internal/reflectlite.Value).Type", "(internal/reflectlite.Value).IsNil", "internal/reflectlite.TypeOf", "(internal/reflectlite.Value).Elem", "(internal/reflectlite.Value).Set"], unfollowed := true, recurses := true, named := ["posthorse/mark.nibbles", "errors.errorType"], apart := false, laid := [("errors.errorType", laid_errors_errorType), ("posthorse/mark.nibbles", laid_posthorse_mark_nibbles)], narrowed := true }
def MarkSealsUptoSaid : Prop := markSealsUptoRow.holds Tryd.pinned (OpenSpec.upto markSealsSpec)

/-- 'posthorselaw03.MarkOpens', WHERE WHAT IT READS IS OF BULK AT MOST 1048576: true; the input reads as it did. -/
def markOpensUptoRow : OpenClaim := { program := "ytiaigboichmepabdoor", sum := "a3eef50b22f4202b4ecfaebced8acede8215cbe0fad753532e7846fbbebd0d49", func := "posthorse/posthorselaw03.MarkOpens", spec := "markOpens", inPlace := ["internal/reflectlite.ValueOf", "(internal/reflectlite.Value).Type", "(internal/reflectlite.Value).IsNil", "internal/reflectlite.TypeOf", "(internal/reflectlite.Value).Elem", "(internal/reflectlite.Value).Set"], unfollowed := true, recurses := true, named := ["posthorse/mark.nibbles", "errors.errorType"], apart := false, laid := [("errors.errorType", laid_errors_errorType), ("posthorse/mark.nibbles", laid_posthorse_mark_nibbles)], narrowed := true }
def MarkOpensUptoSaid : Prop := markOpensUptoRow.holds Tryd.pinned (OpenSpec.upto markOpensSpec)

/-- 'posthorselaw03.MarkSpoilt', WHERE WHAT IT READS IS OF BULK AT MOST 1048576: true; the input reads as it did. -/
def markSpoiltUptoRow : OpenClaim := { program := "ytiaigboichmepabdoor", sum := "a3eef50b22f4202b4ecfaebced8acede8215cbe0fad753532e7846fbbebd0d49", func := "posthorse/posthorselaw03.MarkSpoilt", spec := "markSpoilt", named := ["posthorse/mark.nibbles"], apart := false, laid := [("posthorse/mark.nibbles", laid_posthorse_mark_nibbles)], narrowed := true }
def MarkSpoiltUptoSaid : Prop := markSpoiltUptoRow.holds Tryd.pinned (OpenSpec.upto markSpoiltSpec)

/-- 'posthorselaw03.MarkApart', WHERE WHAT IT READS IS OF BULK AT MOST 1048576: true; the input reads as it did. -/
def markApartUptoRow : OpenClaim := { program := "ytiaigboichmepabdoor", sum := "a3eef50b22f4202b4ecfaebced8acede8215cbe0fad753532e7846fbbebd0d49", func := "posthorse/posthorselaw03.MarkApart", spec := "markApart", named := ["posthorse/mark.nibbles"], apart := false, laid := [("posthorse/mark.nibbles", laid_posthorse_mark_nibbles)], narrowed := true }
def MarkApartUptoSaid : Prop := markApartUptoRow.holds Tryd.pinned (OpenSpec.upto markApartSpec)

end Rows
end Go.Proofs.YtiaigboichmepabDoor
