/-
  DERIVED. GIVEN WITH THE SEED: THE CARDS: each row of YtdjlkmghdpmdiaaDoorRows.lean that lists a variable, with what it lists TIED to the program's text (the seventh form; the later family's looks); each row that meets fmt, with fmt's text TOLD by the authors' own Lean function (tested against real Go, not proved from fmt's source: count such statements apart). THE CARD IS WHAT COUNTS. Prove the row's statement (the work); the ties are given (YtdjlkmghdpmdiaaDoorTie.lean); close each card by the builder's one call (the guide's Derived/Test/ToyasCard.lean, 'card_holds'). Laid BY PROGRAM, IN A SANDBOX (cutbox-door.mjs). By AI agents, Wed Nov 11 2026. No macro, syntax, notation, axiom, sorry.
-/
import Derived.Test.YtdjlkmghdpmdiaaDoorRows
import GoSem.ClaimSeven
namespace Go.Proofs.YtdjlkmghdpmdiaaDoor
namespace Rows

/-- THE TIED CARD OF 'quilletlaw07.HardSteps'. -/
def hardStepsCard : Claim7 := { stood := { row := hardStepsRow, standIns := [], harness := (true, "f6b7342882da31f11fae3f7bc8c6a76fe9d8889d0d2185b86f27707b5ac54b62"), looks := true }, kinds := [], alts := [], laidByText := true, laidKinds := [.data], laidTests := true, laidLooks := .later }
def HardStepsCardSaid : Prop := Claim7.holds Tryd.pinned (.plain (OpenSpec.ofChange hardStepsSpec)) hardStepsCard

/-- THE TIED CARD OF 'quilletlaw07.HardWhole'. -/
def hardWholeCard : Claim7 := { stood := { row := hardWholeRow, standIns := [], harness := (true, "f6b7342882da31f11fae3f7bc8c6a76fe9d8889d0d2185b86f27707b5ac54b62"), looks := true }, kinds := [], alts := [], laidByText := true, laidKinds := [.data], laidTests := true, laidLooks := .later }
def HardWholeCardSaid : Prop := Claim7.holds Tryd.pinned (.plain (OpenSpec.ofChange hardWholeSpec)) hardWholeCard

/-- THE TIED CARD OF 'quilletlaw07.HardRaw'. -/
def hardRawCard : Claim7 := { stood := { row := hardRawRow, standIns := [], harness := (true, "f6b7342882da31f11fae3f7bc8c6a76fe9d8889d0d2185b86f27707b5ac54b62"), looks := true }, kinds := [], alts := [], laidByText := true, laidKinds := [.data], laidTests := true, laidLooks := .later }
def HardRawCardSaid : Prop := Claim7.holds Tryd.pinned (.plain (OpenSpec.ofChange hardRawSpec)) hardRawCard

/-- THE SECOND FORM's CARD OF 'quilletlaw07.HardSteps'. -/
def hardStepsUptoCard : Claim7 := { stood := { row := hardStepsUptoRow, standIns := [], harness := (true, "f6b7342882da31f11fae3f7bc8c6a76fe9d8889d0d2185b86f27707b5ac54b62"), looks := true }, kinds := [], alts := [], laidByText := true, laidKinds := [.data], laidTests := true, laidLooks := .later }
def HardStepsUptoCardSaid : Prop := Claim7.holds Tryd.pinned (.plain (OpenSpec.upto hardStepsSpec)) hardStepsUptoCard

/-- THE SECOND FORM's CARD OF 'quilletlaw07.HardWhole'. -/
def hardWholeUptoCard : Claim7 := { stood := { row := hardWholeUptoRow, standIns := [], harness := (true, "f6b7342882da31f11fae3f7bc8c6a76fe9d8889d0d2185b86f27707b5ac54b62"), looks := true }, kinds := [], alts := [], laidByText := true, laidKinds := [.data], laidTests := true, laidLooks := .later }
def HardWholeUptoCardSaid : Prop := Claim7.holds Tryd.pinned (.plain (OpenSpec.upto hardWholeSpec)) hardWholeUptoCard

/-- THE SECOND FORM's CARD OF 'quilletlaw07.HardRaw'. -/
def hardRawUptoCard : Claim7 := { stood := { row := hardRawUptoRow, standIns := [], harness := (true, "f6b7342882da31f11fae3f7bc8c6a76fe9d8889d0d2185b86f27707b5ac54b62"), looks := true }, kinds := [], alts := [], laidByText := true, laidKinds := [.data], laidTests := true, laidLooks := .later }
def HardRawUptoCardSaid : Prop := Claim7.holds Tryd.pinned (.plain (OpenSpec.upto hardRawSpec)) hardRawUptoCard
end Rows
end Go.Proofs.YtdjlkmghdpmdiaaDoor
