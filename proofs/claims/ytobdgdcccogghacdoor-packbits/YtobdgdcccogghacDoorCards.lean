/-
  DERIVED. GIVEN WITH THE SEED: THE CARDS: each row of YtobdgdcccogghacDoorRows.lean that lists a variable, with what it lists TIED to the program's text (the seventh form; the later family's looks); each row that meets fmt, with fmt's text TOLD by the authors' own Lean function (tested against real Go, not proved from fmt's source: count such statements apart). THE CARD IS WHAT COUNTS. Prove the row's statement (the work); the ties are given (YtobdgdcccogghacDoorTie.lean); close each card by the builder's one call (the guide's Derived/Test/ToyasCard.lean, 'card_holds'). Laid BY PROGRAM, IN A SANDBOX (cutbox-door.mjs). By AI agents, Wed Nov 11 2026. No macro, syntax, notation, axiom, sorry.
-/
import Derived.Test.YtobdgdcccogghacDoorRows
import GoSem.ClaimSeven
namespace Go.Proofs.YtobdgdcccogghacDoor
namespace Rows

/-- THE TIED CARD OF 'quilletlaw03.PackBits'. -/
def packBitsCard : Claim7 := { stood := { row := packBitsRow, standIns := [], harness := (true, "7ced458c4fdc12ec5ef6423f96c58992fcb4462ad093457c6cd132a471932c8b"), looks := false }, kinds := [], alts := [], laidByText := true, laidKinds := [.data], laidTests := true, laidLooks := .later }
def PackBitsCardSaid : Prop := Claim7.holds Tryd.pinned (.plain (OpenSpec.ofChange packBitsSpec)) packBitsCard

/-- THE SECOND FORM's CARD OF 'quilletlaw03.PackBits'. -/
def packBitsUptoCard : Claim7 := { stood := { row := packBitsUptoRow, standIns := [], harness := (true, "7ced458c4fdc12ec5ef6423f96c58992fcb4462ad093457c6cd132a471932c8b"), looks := false }, kinds := [], alts := [], laidByText := true, laidKinds := [.data], laidTests := true, laidLooks := .later }
def PackBitsUptoCardSaid : Prop := Claim7.holds Tryd.pinned (.plain (OpenSpec.upto packBitsSpec)) packBitsUptoCard
end Rows
end Go.Proofs.YtobdgdcccogghacDoor
