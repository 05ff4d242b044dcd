/-
  DERIVED. GIVEN WITH THE SEED: THE CARDS: each row of YtadimbpgdihjlabDoorRows.lean that lists a variable, with what it lists TIED to the program's text (the seventh form; the later family's looks); each row that meets fmt, with fmt's text TOLD by the authors' own Lean function (tested against real Go, not proved from fmt's source: count such statements apart). THE CARD IS WHAT COUNTS. Prove the row's statement (the work); the ties are given (YtadimbpgdihjlabDoorTie.lean); close each card by the builder's one call (the guide's Derived/Test/ToyasCard.lean, 'card_holds'). Laid BY PROGRAM, IN A SANDBOX (cutbox-door.mjs). By AI agents, Wed Nov 11 2026. No macro, syntax, notation, axiom, sorry.
-/
import Derived.Test.YtadimbpgdihjlabDoorRows
import GoSem.ClaimSeven
namespace Go.Proofs.YtadimbpgdihjlabDoor
namespace Rows

/-- THE TIED CARD OF 'posthorselaw09.SuperGets'. -/
def superGetsCard : Claim7 := { stood := { row := superGetsRow, standIns := [], harness := (true, "bc62c27d50d7ff38556ebf38f5f890e7305b75893f3f714a39454df003df05b7"), looks := true }, kinds := [], alts := [], laidByText := true, laidKinds := [.data, .handle, .data, .pinned], laidTests := true, laidLooks := .later }
def SuperGetsCardSaid : Prop := Claim7.holds Tryd.pinned (.plain (OpenSpec.ofChange superGetsSpec)) superGetsCard

/-- THE TIED CARD OF 'posthorselaw09.SuperApart'. -/
def superApartCard : Claim7 := { stood := { row := superApartRow, standIns := [], harness := (true, "bc62c27d50d7ff38556ebf38f5f890e7305b75893f3f714a39454df003df05b7"), looks := true }, kinds := [], alts := [], laidByText := true, laidKinds := [.data], laidTests := true, laidLooks := .later }
def SuperApartCardSaid : Prop := Claim7.holds Tryd.pinned (.plain (OpenSpec.ofChange superApartSpec)) superApartCard

/-- THE SECOND FORM's CARD OF 'posthorselaw09.SuperGets'. -/
def superGetsUptoCard : Claim7 := { stood := { row := superGetsUptoRow, standIns := [], harness := (true, "bc62c27d50d7ff38556ebf38f5f890e7305b75893f3f714a39454df003df05b7"), looks := true }, kinds := [], alts := [], laidByText := true, laidKinds := [.data, .handle, .data, .pinned], laidTests := true, laidLooks := .later }
def SuperGetsUptoCardSaid : Prop := Claim7.holds Tryd.pinned (.plain (OpenSpec.upto superGetsSpec)) superGetsUptoCard

/-- THE SECOND FORM's CARD OF 'posthorselaw09.SuperApart'. -/
def superApartUptoCard : Claim7 := { stood := { row := superApartUptoRow, standIns := [], harness := (true, "bc62c27d50d7ff38556ebf38f5f890e7305b75893f3f714a39454df003df05b7"), looks := true }, kinds := [], alts := [], laidByText := true, laidKinds := [.data], laidTests := true, laidLooks := .later }
def SuperApartUptoCardSaid : Prop := Claim7.holds Tryd.pinned (.plain (OpenSpec.upto superApartSpec)) superApartUptoCard
end Rows
end Go.Proofs.YtadimbpgdihjlabDoor
