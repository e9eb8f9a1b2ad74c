/-
  NARROWER THAN 'FOR EVERY INPUT', by the rows' own cells (each row's printed sentence says how): HardSteps: laid · HardWhole: laid · HardRaw: laid.
  DERIVED. THE GIVEN ROWS OF THIS SEAT. 3 by the template 'for every input the law returns true; each argument reads behind the call as it read before'; 0 by the template 'total and deterministic' (their statements: YtdjlkmghdpmdiaaDoorTotals.lean).
  GIVEN WITH THE SEED: the statements are not yours to turn. If you find one false, say at which input.
  Laid BY PROGRAM, IN A SANDBOX (cutbox-rows.mjs): the forced cells as the released guide's own fill.sh prints them over the translation 678cf97eb1ec4a34… (all of the seat's roots in one cut). By AI agents, Wed Nov 11 2026. No macro, syntax, notation, axiom, sorry.
-/
import Derived.Test.YtdjlkmghdpmdiaaDoorChecked
import GoSem.Claim
import GoSem.ClaimJoined
import GoSem.ClaimMapViews
import Derived.JoinedTies
import Derived.KernelRfl
namespace Go.Proofs.YtdjlkmghdpmdiaaDoor
/- THE CELL 'sum', in the pinned program and in every row, IS THE sha256 OF THE DUMP (.gsa) THAT YtdjlkmghdpmdiaaDoorProg.lean LOADS. Nothing in Lean hashes anything: it is a label: what it is worth is what the hold of that sum in a sandbox is worth. -/
noncomputable def Tryd.pinned : Pinned := { name := "ytdjlkmghdpmdiaadoor", sum := "678cf97eb1ec4a34e90a7cb57fdd1ec0c79a2335f15618b30bce5bb61dc4b985", checked := Tryd.checked }
namespace Rows
def none {H : Type} : Left H := { results := [], args := [] }

/- WHAT THE LISTED PACKAGE-LEVEL VARIABLES READ AS WHEN THE CALL BEGINS. Each datum BY PROGRAM (the guide's laid-datum.mjs) off the statement by which the dump's own 'gosem.cut.vars' lays the variable. In a bare row this is a premise. The card (YtdjlkmghdpmdiaaDoorCards.lean) ties it to the program's text. -/
def laid_quillet_pack_halves {H : Type} : DataW H := .agg [.lit (.int .u32 0), .lit (.int .u32 274646895), .lit (.int .u32 549293790), .lit (.int .u32 820201905), .lit (.int .u32 1098587580), .lit (.int .u32 1361435347), .lit (.int .u32 1640403810), .lit (.int .u32 1905808397), .lit (.int .u32 2197175160), .lit (.int .u32 2460548119), .lit (.int .u32 2722870694), .lit (.int .u32 2987750089), .lit (.int .u32 3280807620), .lit (.int .u32 3553878443), .lit (.int .u32 3811616794), .lit (.int .u32 4084100981)]

/-- 'quilletlaw07.HardSteps': WHATEVER THE INPUT: true; the input reads as it did. -/
def hardStepsSpec : ChangeSpec := { name := "hardSteps", fn := fun _ => fun
  | [d1, d2, d3] => { results := [.lit (.bool true)], args := [d1, d2, d3] }
  | _ => none }
def hardStepsRow : OpenClaim := { program := "ytdjlkmghdpmdiaadoor", sum := "678cf97eb1ec4a34e90a7cb57fdd1ec0c79a2335f15618b30bce5bb61dc4b985", func := "quillet/quilletlaw07.HardSteps", spec := "hardSteps", inPlace := ["math.Float64frombits", "math.Float64bits"], unfollowed := true, recurses := true, named := ["quillet/pack.halves"], apart := false, laid := [("quillet/pack.halves", laid_quillet_pack_halves)] }
def HardStepsSaid : Prop := hardStepsRow.holds Tryd.pinned (OpenSpec.ofChange hardStepsSpec)

/-- ITS FALSE NEIGHBOUR: 'it returns false'. Refute it at one input. -/
def hardStepsWrong : ChangeSpec := { name := "hardSteps", fn := fun _ => fun
  | [d1, d2, d3] => { results := [.lit (.bool false)], args := [d1, d2, d3] }
  | _ => none }
def HardStepsWrongFalsely : Prop := hardStepsRow.holds Tryd.pinned (OpenSpec.ofChange hardStepsWrong)

/-- 'quilletlaw07.HardWhole': WHATEVER THE INPUT: true; the input reads as it did. -/
def hardWholeSpec : ChangeSpec := { name := "hardWhole", fn := fun _ => fun
  | [d1, d2, d3, d4] => { results := [.lit (.bool true)], args := [d1, d2, d3, d4] }
  | _ => none }
def hardWholeRow : OpenClaim := { program := "ytdjlkmghdpmdiaadoor", sum := "678cf97eb1ec4a34e90a7cb57fdd1ec0c79a2335f15618b30bce5bb61dc4b985", func := "quillet/quilletlaw07.HardWhole", spec := "hardWhole", inPlace := ["math.Float64frombits", "math.Float64bits"], unfollowed := true, recurses := true, named := ["quillet/pack.halves"], apart := false, laid := [("quillet/pack.halves", laid_quillet_pack_halves)] }
def HardWholeSaid : Prop := hardWholeRow.holds Tryd.pinned (OpenSpec.ofChange hardWholeSpec)

/-- ITS FALSE NEIGHBOUR: 'it returns false'. Refute it at one input. -/
def hardWholeWrong : ChangeSpec := { name := "hardWhole", fn := fun _ => fun
  | [d1, d2, d3, d4] => { results := [.lit (.bool false)], args := [d1, d2, d3, d4] }
  | _ => none }
def HardWholeWrongFalsely : Prop := hardWholeRow.holds Tryd.pinned (OpenSpec.ofChange hardWholeWrong)

/-- 'quilletlaw07.HardRaw': WHATEVER THE INPUT: true; the input reads as it did. -/
def hardRawSpec : ChangeSpec := { name := "hardRaw", fn := fun _ => fun
  | [d1, d2, d3] => { results := [.lit (.bool true)], args := [d1, d2, d3] }
  | _ => none }
def hardRawRow : OpenClaim := { program := "ytdjlkmghdpmdiaadoor", sum := "678cf97eb1ec4a34e90a7cb57fdd1ec0c79a2335f15618b30bce5bb61dc4b985", func := "quillet/quilletlaw07.HardRaw", spec := "hardRaw", inPlace := ["math.Float64frombits", "math.Float64bits"], unfollowed := true, recurses := true, named := ["quillet/pack.halves"], apart := false, laid := [("quillet/pack.halves", laid_quillet_pack_halves)] }
def HardRawSaid : Prop := hardRawRow.holds Tryd.pinned (OpenSpec.ofChange hardRawSpec)

/-- ITS FALSE NEIGHBOUR: 'it returns false'. Refute it at one input. -/
def hardRawWrong : ChangeSpec := { name := "hardRaw", fn := fun _ => fun
  | [d1, d2, d3] => { results := [.lit (.bool false)], args := [d1, d2, d3] }
  | _ => none }
def HardRawWrongFalsely : Prop := hardRawRow.holds Tryd.pinned (OpenSpec.ofChange hardRawWrong)

/- THE SECOND FORM. 'bulk': how many values and letters a reading holds, each counted each time it is reached (what is shared counts as often as it is met; a slice's spare places count too). A statement '..UptoSaid' is the law's where the arguments, and the package variables that the reading takes, are together of bulk at most 1048576: NARROWER than '..Said'. Prove '..Said' where nothing that the law and all that it calls make is longer than what came in: it says more and counts as full. Else prove '..UptoSaid'. A law counts once. -/
mutual
def uptoBulk {H : Type} : DataW H → Nat
  | .lit (.string bytes) => bytes.length + 1
  | .lit _ => 1
  | .nil => 1
  | .ptr d => uptoBulk d + 1
  | .slice elems spare => uptoBulkAll elems + uptoBulkAll spare + 1
  | .agg parts => uptoBulkAll parts + 1
  | .iface _ d => uptoBulk d + 1
  | .map entries => uptoBulkEntries entries + 1
  | .held _ => 1
def uptoBulkAll {H : Type} : List (DataW H) → Nat
  | [] => 0
  | d :: r => uptoBulk d + uptoBulkAll r
def uptoBulkEntries {H : Type} : List (Lit × DataW H) → Nat
  | [] => 0
  | x :: r => uptoBulkEntry x + uptoBulkEntries r
def uptoBulkEntry {H : Type} : Lit × DataW H → Nat
  | (.string bytes, d) => bytes.length + uptoBulk d + 1
  | (_, d) => uptoBulk d + 1
 end
def uptoSmall : (H : Type) → List (DataW H) → Bool := fun _ ds => decide (uptoBulkAll ds ≤ 1048576)
def OpenSpec.upto (s : _root_.Go.ChangeSpec) : _root_.Go.OpenSpec := { _root_.Go.OpenSpec.ofChange s with cond := some uptoSmall }

/-- 'quilletlaw07.HardSteps', WHERE WHAT IT READS IS OF BULK AT MOST 1048576: true; the input reads as it did. -/
def hardStepsUptoRow : OpenClaim := { program := "ytdjlkmghdpmdiaadoor", sum := "678cf97eb1ec4a34e90a7cb57fdd1ec0c79a2335f15618b30bce5bb61dc4b985", func := "quillet/quilletlaw07.HardSteps", spec := "hardSteps", inPlace := ["math.Float64frombits", "math.Float64bits"], unfollowed := true, recurses := true, named := ["quillet/pack.halves"], apart := false, laid := [("quillet/pack.halves", laid_quillet_pack_halves)], narrowed := true }
def HardStepsUptoSaid : Prop := hardStepsUptoRow.holds Tryd.pinned (OpenSpec.upto hardStepsSpec)

/-- 'quilletlaw07.HardWhole', WHERE WHAT IT READS IS OF BULK AT MOST 1048576: true; the input reads as it did. -/
def hardWholeUptoRow : OpenClaim := { program := "ytdjlkmghdpmdiaadoor", sum := "678cf97eb1ec4a34e90a7cb57fdd1ec0c79a2335f15618b30bce5bb61dc4b985", func := "quillet/quilletlaw07.HardWhole", spec := "hardWhole", inPlace := ["math.Float64frombits", "math.Float64bits"], unfollowed := true, recurses := true, named := ["quillet/pack.halves"], apart := false, laid := [("quillet/pack.halves", laid_quillet_pack_halves)], narrowed := true }
def HardWholeUptoSaid : Prop := hardWholeUptoRow.holds Tryd.pinned (OpenSpec.upto hardWholeSpec)

/-- 'quilletlaw07.HardRaw', WHERE WHAT IT READS IS OF BULK AT MOST 1048576: true; the input reads as it did. -/
def hardRawUptoRow : OpenClaim := { program := "ytdjlkmghdpmdiaadoor", sum := "678cf97eb1ec4a34e90a7cb57fdd1ec0c79a2335f15618b30bce5bb61dc4b985", func := "quillet/quilletlaw07.HardRaw", spec := "hardRaw", inPlace := ["math.Float64frombits", "math.Float64bits"], unfollowed := true, recurses := true, named := ["quillet/pack.halves"], apart := false, laid := [("quillet/pack.halves", laid_quillet_pack_halves)], narrowed := true }
def HardRawUptoSaid : Prop := hardRawUptoRow.holds Tryd.pinned (OpenSpec.upto hardRawSpec)

end Rows
end Go.Proofs.YtdjlkmghdpmdiaaDoor
