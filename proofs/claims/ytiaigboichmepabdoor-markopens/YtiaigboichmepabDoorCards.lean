/-
  DERIVED. GIVEN WITH THE SEED: THE CARDS: each row of YtiaigboichmepabDoorRows.lean that lists a variable, with what it lists TIED to the program's text (the seventh form; the later family's looks); each row that meets fmt, with fmt's text TOLD by the authors' own Lean function (tested against real Go, not proved from fmt's source: count such statements apart). THE CARD IS WHAT COUNTS. Prove the row's statement (the work); the ties are given (YtiaigboichmepabDoorTie.lean); close each card by the builder's one call (the guide's Derived/Test/ToyasCard.lean, 'card_holds'). Laid BY PROGRAM, IN A SANDBOX (cutbox-door.mjs). By AI agents, Wed Nov 11 2026. No macro, syntax, notation, axiom, sorry.
-/
import Derived.Test.YtiaigboichmepabDoorRows
import GoSem.ClaimSeven
namespace Go.Proofs.YtiaigboichmepabDoor
namespace Rows

/-- THE TIED CARD OF 'posthorselaw03.MarkSums'. -/
def markSumsCard : Claim7 := { stood := { row := markSumsRow, standIns := [], harness := (true, "89e560fff7bb3d5dcb1d59e449a4d7664fb98e1127bf12d9ef7b7dd81c763d7e"), looks := true }, kinds := [], alts := [], laidByText := true, laidKinds := [.data], laidTests := true, laidLooks := .later }
def MarkSumsCardSaid : Prop := Claim7.holds Tryd.pinned (.plain (OpenSpec.ofChange markSumsSpec)) markSumsCard

/-- THE TIED CARD OF 'posthorselaw03.MarkSeals'. -/
def markSealsCard : Claim7 := { stood := { row := markSealsRow, standIns := [], harness := (true, "89e560fff7bb3d5dcb1d59e449a4d7664fb98e1127bf12d9ef7b7dd81c763d7e"), looks := true }, kinds := [], alts := [], laidByText := true, laidKinds := [.handle, .data], laidTests := true, laidLooks := .later }
def MarkSealsCardSaid : Prop := Claim7.holds Tryd.pinned (.plain (OpenSpec.ofChange markSealsSpec)) markSealsCard

/-- THE TIED CARD OF 'posthorselaw03.MarkOpens'. -/
def markOpensCard : Claim7 := { stood := { row := markOpensRow, standIns := [], harness := (true, "89e560fff7bb3d5dcb1d59e449a4d7664fb98e1127bf12d9ef7b7dd81c763d7e"), looks := true }, kinds := [], alts := [], laidByText := true, laidKinds := [.handle, .data], laidTests := true, laidLooks := .later }
def MarkOpensCardSaid : Prop := Claim7.holds Tryd.pinned (.plain (OpenSpec.ofChange markOpensSpec)) markOpensCard

/-- THE TIED CARD OF 'posthorselaw03.MarkSpoilt'. -/
def markSpoiltCard : Claim7 := { stood := { row := markSpoiltRow, standIns := [], harness := (true, "89e560fff7bb3d5dcb1d59e449a4d7664fb98e1127bf12d9ef7b7dd81c763d7e"), looks := true }, kinds := [], alts := [], laidByText := true, laidKinds := [.data], laidTests := true, laidLooks := .later }
def MarkSpoiltCardSaid : Prop := Claim7.holds Tryd.pinned (.plain (OpenSpec.ofChange markSpoiltSpec)) markSpoiltCard

/-- THE TIED CARD OF 'posthorselaw03.MarkApart'. -/
def markApartCard : Claim7 := { stood := { row := markApartRow, standIns := [], harness := (true, "89e560fff7bb3d5dcb1d59e449a4d7664fb98e1127bf12d9ef7b7dd81c763d7e"), looks := true }, kinds := [], alts := [], laidByText := true, laidKinds := [.data], laidTests := true, laidLooks := .later }
def MarkApartCardSaid : Prop := Claim7.holds Tryd.pinned (.plain (OpenSpec.ofChange markApartSpec)) markApartCard

/-- THE SECOND FORM's CARD OF 'posthorselaw03.MarkSums'. -/
def markSumsUptoCard : Claim7 := { stood := { row := markSumsUptoRow, standIns := [], harness := (true, "89e560fff7bb3d5dcb1d59e449a4d7664fb98e1127bf12d9ef7b7dd81c763d7e"), looks := true }, kinds := [], alts := [], laidByText := true, laidKinds := [.data], laidTests := true, laidLooks := .later }
def MarkSumsUptoCardSaid : Prop := Claim7.holds Tryd.pinned (.plain (OpenSpec.upto markSumsSpec)) markSumsUptoCard

/-- THE SECOND FORM's CARD OF 'posthorselaw03.MarkSeals'. -/
def markSealsUptoCard : Claim7 := { stood := { row := markSealsUptoRow, standIns := [], harness := (true, "89e560fff7bb3d5dcb1d59e449a4d7664fb98e1127bf12d9ef7b7dd81c763d7e"), looks := true }, kinds := [], alts := [], laidByText := true, laidKinds := [.handle, .data], laidTests := true, laidLooks := .later }
def MarkSealsUptoCardSaid : Prop := Claim7.holds Tryd.pinned (.plain (OpenSpec.upto markSealsSpec)) markSealsUptoCard

/-- THE SECOND FORM's CARD OF 'posthorselaw03.MarkOpens'. -/
def markOpensUptoCard : Claim7 := { stood := { row := markOpensUptoRow, standIns := [], harness := (true, "89e560fff7bb3d5dcb1d59e449a4d7664fb98e1127bf12d9ef7b7dd81c763d7e"), looks := true }, kinds := [], alts := [], laidByText := true, laidKinds := [.handle, .data], laidTests := true, laidLooks := .later }
def MarkOpensUptoCardSaid : Prop := Claim7.holds Tryd.pinned (.plain (OpenSpec.upto markOpensSpec)) markOpensUptoCard

/-- THE SECOND FORM's CARD OF 'posthorselaw03.MarkSpoilt'. -/
def markSpoiltUptoCard : Claim7 := { stood := { row := markSpoiltUptoRow, standIns := [], harness := (true, "89e560fff7bb3d5dcb1d59e449a4d7664fb98e1127bf12d9ef7b7dd81c763d7e"), looks := true }, kinds := [], alts := [], laidByText := true, laidKinds := [.data], laidTests := true, laidLooks := .later }
def MarkSpoiltUptoCardSaid : Prop := Claim7.holds Tryd.pinned (.plain (OpenSpec.upto markSpoiltSpec)) markSpoiltUptoCard

/-- THE SECOND FORM's CARD OF 'posthorselaw03.MarkApart'. -/
def markApartUptoCard : Claim7 := { stood := { row := markApartUptoRow, standIns := [], harness := (true, "89e560fff7bb3d5dcb1d59e449a4d7664fb98e1127bf12d9ef7b7dd81c763d7e"), looks := true }, kinds := [], alts := [], laidByText := true, laidKinds := [.data], laidTests := true, laidLooks := .later }
def MarkApartUptoCardSaid : Prop := Claim7.holds Tryd.pinned (.plain (OpenSpec.upto markApartSpec)) markApartUptoCard
end Rows
end Go.Proofs.YtiaigboichmepabDoor
