/-
  DERIVED. GIVEN WITH THE SEED: THE CARDS: each row of YtncjlcgndhodmabDoorRows.lean that lists a variable, with what it lists TIED to the program's text (the seventh form; the later family's looks); each row that meets fmt, with fmt's text TOLD by the authors' own Lean function (tested against real Go, not proved from fmt's source: count such statements apart). THE CARD IS WHAT COUNTS. Prove the row's statement (the work); the ties are given (YtncjlcgndhodmabDoorTie.lean); close each card by the builder's one call (the guide's Derived/Test/ToyasCard.lean, 'card_holds'). Laid BY PROGRAM, IN A SANDBOX (cutbox-door.mjs). By AI agents, Wed Nov 11 2026. No macro, syntax, notation, axiom, sorry.
-/
import Derived.Test.YtncjlcgndhodmabDoorRows
import GoSem.ClaimSeven
namespace Go.Proofs.YtncjlcgndhodmabDoor
namespace Rows

/-- THE TIED CARD OF 'posthorselaw20.RunSame'. -/
def runSameCard : Claim7 := { stood := { row := runSameRow, standIns := [], harness := (true, "39267a027ba11d9a3be845b8bfe64065f66db11ce1df636288c6402301c93314"), looks := true }, kinds := [], alts := [], laidByText := true, laidKinds := [.handle], laidTests := true, laidLooks := .later }
def RunSameCardSaid : Prop := Claim7.holds Tryd.pinned (.plain (OpenSpec.ofChange runSameSpec)) runSameCard

/-- THE TIED CARD OF 'posthorselaw20.RunHelpers'. -/
def runHelpersCard : Claim7 := { stood := { row := runHelpersRow, standIns := [], harness := (true, "39267a027ba11d9a3be845b8bfe64065f66db11ce1df636288c6402301c93314"), looks := true }, kinds := [], alts := [], laidByText := true, laidKinds := [.handle], laidTests := true, laidLooks := .later }
def RunHelpersCardSaid : Prop := Claim7.holds Tryd.pinned (.plain (OpenSpec.ofChange runHelpersSpec)) runHelpersCard

/-- THE SECOND FORM's CARD OF 'posthorselaw20.RunSame'. -/
def runSameUptoCard : Claim7 := { stood := { row := runSameUptoRow, standIns := [], harness := (true, "39267a027ba11d9a3be845b8bfe64065f66db11ce1df636288c6402301c93314"), looks := true }, kinds := [], alts := [], laidByText := true, laidKinds := [.handle], laidTests := true, laidLooks := .later }
def RunSameUptoCardSaid : Prop := Claim7.holds Tryd.pinned (.plain (OpenSpec.upto runSameSpec)) runSameUptoCard

/-- THE SECOND FORM's CARD OF 'posthorselaw20.RunHelpers'. -/
def runHelpersUptoCard : Claim7 := { stood := { row := runHelpersUptoRow, standIns := [], harness := (true, "39267a027ba11d9a3be845b8bfe64065f66db11ce1df636288c6402301c93314"), looks := true }, kinds := [], alts := [], laidByText := true, laidKinds := [.handle], laidTests := true, laidLooks := .later }
def RunHelpersUptoCardSaid : Prop := Claim7.holds Tryd.pinned (.plain (OpenSpec.upto runHelpersSpec)) runHelpersUptoCard
end Rows
end Go.Proofs.YtncjlcgndhodmabDoor
