/-
  DERIVED. GIVEN WITH THE SEED: THE CARDS: each row of YtfphopleniidfaaGreatDoorRows.lean that lists a variable, with what it lists TIED to the program's text (the seventh form; the later family's looks); each row that meets fmt, with fmt's text TOLD by the authors' own Lean function (tested against real Go, not proved from fmt's source: count such statements apart). THE CARD IS WHAT COUNTS. Prove the row's statement (the work); the ties are given (YtfphopleniidfaaGreatDoorTie.lean); close each card by the builder's one call (the guide's Derived/Test/ToyasCard.lean, 'card_holds'). Laid BY PROGRAM, IN A SANDBOX (cutbox-door.mjs). By AI agents, Wed Nov 11 2026. No macro, syntax, notation, axiom, sorry.
-/
import Derived.Test.YtfphopleniidfaaGreatDoorRows
import GoSem.ClaimSeven
namespace Go.Proofs.YtfphopleniidfaaGreatDoor
namespace Rows

/-- THE TIED CARD OF 'quilletlaw07.HardPlays'. -/
def hardPlaysCard : Claim7 := { stood := { row := hardPlaysRow, standIns := [], harness := (true, "9e62e99805867fecc926a99512e794342418ae455c24e6a5666e90bb0e78aae1"), looks := true }, kinds := [], alts := [], laidByText := true, laidKinds := [.data], laidTests := true, laidLooks := .later }
def HardPlaysCardSaid : Prop := Claim7.holds Tryz.pinned (.plain (OpenSpec.ofChange hardPlaysSpec)) hardPlaysCard

/-- THE SECOND FORM's CARD OF 'quilletlaw07.HardPlays'. -/
def hardPlaysUptoCard : Claim7 := { stood := { row := hardPlaysUptoRow, standIns := [], harness := (true, "9e62e99805867fecc926a99512e794342418ae455c24e6a5666e90bb0e78aae1"), looks := true }, kinds := [], alts := [], laidByText := true, laidKinds := [.data], laidTests := true, laidLooks := .later }
def HardPlaysUptoCardSaid : Prop := Claim7.holds Tryz.pinned (.plain (OpenSpec.upto hardPlaysSpec)) hardPlaysUptoCard
end Rows
end Go.Proofs.YtfphopleniidfaaGreatDoor
