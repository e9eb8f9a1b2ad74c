/-
  DERIVED. GIVEN WITH THE SEED: THE CARDS: each row of YtobdgdcccogghabDoorRows.lean that lists a variable, with what it lists TIED to the program's text (the seventh form; the later family's looks); each row that meets fmt, with fmt's text TOLD by the authors' own Lean function (tested against real Go, not proved from fmt's source: count such statements apart). THE CARD IS WHAT COUNTS. Prove the row's statement (the work); the ties are given (YtobdgdcccogghabDoorTie.lean); close each card by the builder's one call (the guide's Derived/Test/ToyasCard.lean, 'card_holds'). Laid BY PROGRAM, IN A SANDBOX (cutbox-door.mjs). By AI agents, Wed Nov 11 2026. No macro, syntax, notation, axiom, sorry.
-/
import Derived.Test.YtobdgdcccogghabDoorRows
import GoSem.ClaimSeven
namespace Go.Proofs.YtobdgdcccogghabDoor
namespace Rows

/-- THE TIED CARD OF 'quilletlaw03.PackSums'. -/
def packSumsCard : Claim7 := { stood := { row := packSumsRow, standIns := [], harness := (true, "6c0398dcb8c09764583cda89bdc2482bc8894de47215cba777214e49ec7a02e5"), looks := false }, kinds := [], alts := [], laidByText := true, laidKinds := [.data], laidTests := true, laidLooks := .later }
def PackSumsCardSaid : Prop := Claim7.holds Tryd.pinned (.plain (OpenSpec.ofChange packSumsSpec)) packSumsCard

/-- THE TIED CARD OF 'quilletlaw03.PackFrames'. -/
def packFramesCard : Claim7 := { stood := { row := packFramesRow, standIns := [], harness := (true, "6c0398dcb8c09764583cda89bdc2482bc8894de47215cba777214e49ec7a02e5"), looks := false }, kinds := [], alts := [], laidByText := true, laidKinds := [.data], laidTests := true, laidLooks := .later }
def PackFramesCardSaid : Prop := Claim7.holds Tryd.pinned (.plain (OpenSpec.ofChange packFramesSpec)) packFramesCard

/-- THE TIED CARD OF 'quilletlaw03.PackStreams'. -/
def packStreamsCard : Claim7 := { stood := { row := packStreamsRow, standIns := [], harness := (true, "6c0398dcb8c09764583cda89bdc2482bc8894de47215cba777214e49ec7a02e5"), looks := false }, kinds := [], alts := [], laidByText := true, laidKinds := [.data], laidTests := true, laidLooks := .later }
def PackStreamsCardSaid : Prop := Claim7.holds Tryd.pinned (.plain (OpenSpec.ofChange packStreamsSpec)) packStreamsCard

/-- THE TIED CARD OF 'quilletlaw03.PackTurns'. -/
def packTurnsCard : Claim7 := { stood := { row := packTurnsRow, standIns := [], harness := (true, "6c0398dcb8c09764583cda89bdc2482bc8894de47215cba777214e49ec7a02e5"), looks := false }, kinds := [], alts := [], laidByText := true, laidKinds := [.data], laidTests := true, laidLooks := .later }
def PackTurnsCardSaid : Prop := Claim7.holds Tryd.pinned (.plain (OpenSpec.ofChange packTurnsSpec)) packTurnsCard

/-- THE SECOND FORM's CARD OF 'quilletlaw03.PackSums'. -/
def packSumsUptoCard : Claim7 := { stood := { row := packSumsUptoRow, standIns := [], harness := (true, "6c0398dcb8c09764583cda89bdc2482bc8894de47215cba777214e49ec7a02e5"), looks := false }, kinds := [], alts := [], laidByText := true, laidKinds := [.data], laidTests := true, laidLooks := .later }
def PackSumsUptoCardSaid : Prop := Claim7.holds Tryd.pinned (.plain (OpenSpec.upto packSumsSpec)) packSumsUptoCard

/-- THE SECOND FORM's CARD OF 'quilletlaw03.PackFrames'. -/
def packFramesUptoCard : Claim7 := { stood := { row := packFramesUptoRow, standIns := [], harness := (true, "6c0398dcb8c09764583cda89bdc2482bc8894de47215cba777214e49ec7a02e5"), looks := false }, kinds := [], alts := [], laidByText := true, laidKinds := [.data], laidTests := true, laidLooks := .later }
def PackFramesUptoCardSaid : Prop := Claim7.holds Tryd.pinned (.plain (OpenSpec.upto packFramesSpec)) packFramesUptoCard

/-- THE SECOND FORM's CARD OF 'quilletlaw03.PackStreams'. -/
def packStreamsUptoCard : Claim7 := { stood := { row := packStreamsUptoRow, standIns := [], harness := (true, "6c0398dcb8c09764583cda89bdc2482bc8894de47215cba777214e49ec7a02e5"), looks := false }, kinds := [], alts := [], laidByText := true, laidKinds := [.data], laidTests := true, laidLooks := .later }
def PackStreamsUptoCardSaid : Prop := Claim7.holds Tryd.pinned (.plain (OpenSpec.upto packStreamsSpec)) packStreamsUptoCard

/-- THE SECOND FORM's CARD OF 'quilletlaw03.PackTurns'. -/
def packTurnsUptoCard : Claim7 := { stood := { row := packTurnsUptoRow, standIns := [], harness := (true, "6c0398dcb8c09764583cda89bdc2482bc8894de47215cba777214e49ec7a02e5"), looks := false }, kinds := [], alts := [], laidByText := true, laidKinds := [.data], laidTests := true, laidLooks := .later }
def PackTurnsUptoCardSaid : Prop := Claim7.holds Tryd.pinned (.plain (OpenSpec.upto packTurnsSpec)) packTurnsUptoCard
end Rows
end Go.Proofs.YtobdgdcccogghabDoor
