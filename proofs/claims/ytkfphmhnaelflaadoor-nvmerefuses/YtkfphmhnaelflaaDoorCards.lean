/-
  DERIVED. GIVEN WITH THE SEED: THE CARDS: each row of YtkfphmhnaelflaaDoorRows.lean that lists a variable, with what it lists TIED to the program's text (the seventh form; the later family's looks); each row that meets fmt, with fmt's text TOLD by the authors' own Lean function (tested against real Go, not proved from fmt's source: count such statements apart). THE CARD IS WHAT COUNTS. Prove the row's statement (the work); the ties are given (YtkfphmhnaelflaaDoorTie.lean); close each card by the builder's one call (the guide's Derived/Test/ToyasCard.lean, 'card_holds'). Laid BY PROGRAM, IN A SANDBOX (cutbox-door.mjs). By AI agents, Wed Nov 11 2026. No macro, syntax, notation, axiom, sorry.
-/
import Derived.Test.YtkfphmhnaelflaaDoorRows
import GoSem.ClaimSeven
namespace Go.Proofs.YtkfphmhnaelflaaDoor
namespace Rows

/-- THE TIED CARD OF 'posthorselaw04.NvmePlays'. -/
def nvmePlaysCard : Claim7 := { stood := { row := nvmePlaysRow, standIns := [], harness := (true, "d60706615924c3bb49fb57455129d2d5a682340fb8bbcb0304a65e169292adac"), looks := true }, kinds := [], alts := [], laidByText := true, laidKinds := [.handle], laidTests := true, laidLooks := .later }
def NvmePlaysCardSaid : Prop := Claim7.holds Tryd.pinned (.plain (OpenSpec.ofChange nvmePlaysSpec)) nvmePlaysCard

/-- THE TIED CARD OF 'posthorselaw04.NvmeRefuses'. -/
def nvmeRefusesCard : Claim7 := { stood := { row := nvmeRefusesRow, standIns := [], harness := (true, "d60706615924c3bb49fb57455129d2d5a682340fb8bbcb0304a65e169292adac"), looks := true }, kinds := [], alts := [], laidByText := true, laidKinds := [.handle], laidTests := true, laidLooks := .later }
def NvmeRefusesCardSaid : Prop := Claim7.holds Tryd.pinned (.plain (OpenSpec.ofChange nvmeRefusesSpec)) nvmeRefusesCard

/-- THE SECOND FORM's CARD OF 'posthorselaw04.NvmePlays'. -/
def nvmePlaysUptoCard : Claim7 := { stood := { row := nvmePlaysUptoRow, standIns := [], harness := (true, "d60706615924c3bb49fb57455129d2d5a682340fb8bbcb0304a65e169292adac"), looks := true }, kinds := [], alts := [], laidByText := true, laidKinds := [.handle], laidTests := true, laidLooks := .later }
def NvmePlaysUptoCardSaid : Prop := Claim7.holds Tryd.pinned (.plain (OpenSpec.upto nvmePlaysSpec)) nvmePlaysUptoCard

/-- THE SECOND FORM's CARD OF 'posthorselaw04.NvmeRefuses'. -/
def nvmeRefusesUptoCard : Claim7 := { stood := { row := nvmeRefusesUptoRow, standIns := [], harness := (true, "d60706615924c3bb49fb57455129d2d5a682340fb8bbcb0304a65e169292adac"), looks := true }, kinds := [], alts := [], laidByText := true, laidKinds := [.handle], laidTests := true, laidLooks := .later }
def NvmeRefusesUptoCardSaid : Prop := Claim7.holds Tryd.pinned (.plain (OpenSpec.upto nvmeRefusesSpec)) nvmeRefusesUptoCard
end Rows
end Go.Proofs.YtkfphmhnaelflaaDoor
