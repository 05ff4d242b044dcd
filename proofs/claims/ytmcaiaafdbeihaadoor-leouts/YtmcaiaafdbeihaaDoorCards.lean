/-
  DERIVED. GIVEN WITH THE SEED: THE CARDS: each row of YtmcaiaafdbeihaaDoorRows.lean that lists a variable, with what it lists TIED to the program's text (the seventh form; the later family's looks); each row that meets fmt, with fmt's text TOLD by the authors' own Lean function (tested against real Go, not proved from fmt's source: count such statements apart). THE CARD IS WHAT COUNTS. Prove the row's statement (the work); the ties are given (YtmcaiaafdbeihaaDoorTie.lean); close each card by the builder's one call (the guide's Derived/Test/ToyasCard.lean, 'card_holds'). Laid BY PROGRAM, IN A SANDBOX (cutbox-door.mjs). By AI agents, Wed Nov 11 2026. No macro, syntax, notation, axiom, sorry.
-/
import Derived.Test.YtmcaiaafdbeihaaDoorRows
import GoSem.ClaimSeven
namespace Go.Proofs.YtmcaiaafdbeihaaDoor
namespace Rows

/-- THE TIED CARD OF 'posthorselaw01.LeOuts'. -/
def leOutsCard : Claim7 := { stood := { row := leOutsRow, standIns := [], harness := (true, "99c903977724a521e005c84c0b36c6490453a6ce420c037629f3e41a523aa8c5"), looks := true }, kinds := [], alts := [], laidByText := true, laidKinds := [.handle], laidTests := true, laidLooks := .later }
def LeOutsCardSaid : Prop := Claim7.holds Tryd.pinned (.plain (OpenSpec.ofChange leOutsSpec)) leOutsCard

/-- THE TIED CARD OF 'posthorselaw01.LeReads'. -/
def leReadsCard : Claim7 := { stood := { row := leReadsRow, standIns := [], harness := (true, "99c903977724a521e005c84c0b36c6490453a6ce420c037629f3e41a523aa8c5"), looks := true }, kinds := [], alts := [], laidByText := true, laidKinds := [.data, .handle, .pinned], laidTests := true, laidLooks := .later }
def LeReadsCardSaid : Prop := Claim7.holds Tryd.pinned (.plain (OpenSpec.ofChange leReadsSpec)) leReadsCard

/-- THE TIED CARD OF 'posthorselaw01.LeNil'. -/
def leNilCard : Claim7 := { stood := { row := leNilRow, standIns := [], harness := (true, "99c903977724a521e005c84c0b36c6490453a6ce420c037629f3e41a523aa8c5"), looks := true }, kinds := [], alts := [], laidByText := true, laidKinds := [.data, .handle, .pinned], laidTests := true, laidLooks := .later }
def LeNilCardSaid : Prop := Claim7.holds Tryd.pinned (.plain (OpenSpec.ofChange leNilSpec)) leNilCard

/-- THE SECOND FORM's CARD OF 'posthorselaw01.LeOuts'. -/
def leOutsUptoCard : Claim7 := { stood := { row := leOutsUptoRow, standIns := [], harness := (true, "99c903977724a521e005c84c0b36c6490453a6ce420c037629f3e41a523aa8c5"), looks := true }, kinds := [], alts := [], laidByText := true, laidKinds := [.handle], laidTests := true, laidLooks := .later }
def LeOutsUptoCardSaid : Prop := Claim7.holds Tryd.pinned (.plain (OpenSpec.upto leOutsSpec)) leOutsUptoCard

/-- THE SECOND FORM's CARD OF 'posthorselaw01.LeReads'. -/
def leReadsUptoCard : Claim7 := { stood := { row := leReadsUptoRow, standIns := [], harness := (true, "99c903977724a521e005c84c0b36c6490453a6ce420c037629f3e41a523aa8c5"), looks := true }, kinds := [], alts := [], laidByText := true, laidKinds := [.data, .handle, .pinned], laidTests := true, laidLooks := .later }
def LeReadsUptoCardSaid : Prop := Claim7.holds Tryd.pinned (.plain (OpenSpec.upto leReadsSpec)) leReadsUptoCard

/-- THE SECOND FORM's CARD OF 'posthorselaw01.LeNil'. -/
def leNilUptoCard : Claim7 := { stood := { row := leNilUptoRow, standIns := [], harness := (true, "99c903977724a521e005c84c0b36c6490453a6ce420c037629f3e41a523aa8c5"), looks := true }, kinds := [], alts := [], laidByText := true, laidKinds := [.data, .handle, .pinned], laidTests := true, laidLooks := .later }
def LeNilUptoCardSaid : Prop := Claim7.holds Tryd.pinned (.plain (OpenSpec.upto leNilSpec)) leNilUptoCard
end Rows
end Go.Proofs.YtmcaiaafdbeihaaDoor
