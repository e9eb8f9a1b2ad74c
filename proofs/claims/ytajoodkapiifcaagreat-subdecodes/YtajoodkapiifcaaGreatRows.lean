/-
  No cell of these rows narrows 'for every input' (looked for: loops, veiled, ifaces, maps, wideKeys, modest, calm, conditions, laid).
  DERIVED. THE GIVEN ROWS OF THIS SEAT. 3 by the template 'for every input the law returns true; each argument reads behind the call as it read before'; 0 by the template 'total and deterministic' (their statements: YtajoodkapiifcaaGreatTotals.lean).
  GIVEN WITH THE SEED: the statements are not yours to turn. If you find one false, say at which input.
  Laid BY PROGRAM, IN A SANDBOX (cutbox-rows.mjs): the forced cells as the released guide's own fill.sh prints them over the translation 5a8aeb5c08fec141… (all of the seat's roots in one cut). By AI agents, Wed Nov 11 2026. No macro, syntax, notation, axiom, sorry.
-/
import Derived.Test.YtajoodkapiifcaaGreatChecked
import GoSem.Claim
import GoSem.ClaimJoined
import GoSem.ClaimMapViews
import Derived.JoinedTies
import Derived.KernelRfl
namespace Go.Proofs.YtajoodkapiifcaaGreat
/- THE CELL 'sum', in the pinned program and in every row, IS THE sha256 OF THE DUMP (.gsa) THAT YtajoodkapiifcaaGreatProg.lean LOADS. Nothing in Lean hashes anything: it is a label: what it is worth is what the hold of that sum in a sandbox is worth. -/
noncomputable def Tryz.pinned : Pinned := { name := "ytajoodkapiifcaagreat", sum := "5a8aeb5c08fec1418bd66aa8ff64cf74e478109549120d7b8a248848388719a7", checked := Tryz.checked }
namespace Rows
def none {H : Type} : Left H := { results := [], args := [] }

/-- 'quilletlaw04.SubPoints': WHATEVER THE INPUT: true; the input reads as it did. -/
def subPointsSpec : ChangeSpec := { name := "subPoints", fn := fun _ => fun
  | [d1, d2] => { results := [.lit (.bool true)], args := [d1, d2] }
  | _ => none }
def subPointsRow : OpenClaim := { program := "ytajoodkapiifcaagreat", sum := "5a8aeb5c08fec1418bd66aa8ff64cf74e478109549120d7b8a248848388719a7", func := "quillet/quilletlaw04.SubPoints", spec := "subPoints", inPlace := ["math.Float64bits", "math.Float64frombits"], unfollowed := true, recurses := true, apart := false }
def SubPointsSaid : Prop := subPointsRow.holds Tryz.pinned (OpenSpec.ofChange subPointsSpec)

/-- ITS FALSE NEIGHBOUR: 'it returns false'. Refute it at one input. -/
def subPointsWrong : ChangeSpec := { name := "subPoints", fn := fun _ => fun
  | [d1, d2] => { results := [.lit (.bool false)], args := [d1, d2] }
  | _ => none }
def SubPointsWrongFalsely : Prop := subPointsRow.holds Tryz.pinned (OpenSpec.ofChange subPointsWrong)

/-- 'quilletlaw04.SubDecodes': WHATEVER THE INPUT: true; the input reads as it did. -/
def subDecodesSpec : ChangeSpec := { name := "subDecodes", fn := fun _ => fun
  | [d] => { results := [.lit (.bool true)], args := [d] }
  | _ => none }
def subDecodesRow : OpenClaim := { program := "ytajoodkapiifcaagreat", sum := "5a8aeb5c08fec1418bd66aa8ff64cf74e478109549120d7b8a248848388719a7", func := "quillet/quilletlaw04.SubDecodes", spec := "subDecodes", inPlace := ["math.Float64bits", "math.Float64frombits"], unfollowed := true, recurses := true, apart := false }
def SubDecodesSaid : Prop := subDecodesRow.holds Tryz.pinned (OpenSpec.ofChange subDecodesSpec)

/-- ITS FALSE NEIGHBOUR: 'it returns false'. Refute it at one input. -/
def subDecodesWrong : ChangeSpec := { name := "subDecodes", fn := fun _ => fun
  | [d] => { results := [.lit (.bool false)], args := [d] }
  | _ => none }
def SubDecodesWrongFalsely : Prop := subDecodesRow.holds Tryz.pinned (OpenSpec.ofChange subDecodesWrong)

/-- 'quilletlaw04.SubBack': WHATEVER THE INPUT: true; the input reads as it did. -/
def subBackSpec : ChangeSpec := { name := "subBack", fn := fun _ => fun
  | [d1, d2] => { results := [.lit (.bool true)], args := [d1, d2] }
  | _ => none }
def subBackRow : OpenClaim := { program := "ytajoodkapiifcaagreat", sum := "5a8aeb5c08fec1418bd66aa8ff64cf74e478109549120d7b8a248848388719a7", func := "quillet/quilletlaw04.SubBack", spec := "subBack", inPlace := ["math.Float64bits", "math.Float64frombits"], unfollowed := true, recurses := true, apart := false }
def SubBackSaid : Prop := subBackRow.holds Tryz.pinned (OpenSpec.ofChange subBackSpec)

/-- ITS FALSE NEIGHBOUR: 'it returns false'. Refute it at one input. -/
def subBackWrong : ChangeSpec := { name := "subBack", fn := fun _ => fun
  | [d1, d2] => { results := [.lit (.bool false)], args := [d1, d2] }
  | _ => none }
def SubBackWrongFalsely : Prop := subBackRow.holds Tryz.pinned (OpenSpec.ofChange subBackWrong)

/- THE SECOND FORM. 'bulk': how many values and letters a reading holds, each counted each time it is reached (what is shared counts as often as it is met; a slice's spare places count too). A statement '..UptoSaid' is the law's where the arguments, and the package variables that the reading takes, are together of bulk at most 1048576: NARROWER than '..Said'. Prove '..Said' where nothing that the law and all that it calls make is longer than what came in: it says more and counts as full. Else prove '..UptoSaid'. A law counts once. -/
mutual
def uptoBulk {H : Type} : DataW H → Nat
  | .lit (.string bytes) => bytes.length + 1
  | .lit _ => 1
  | .nil => 1
  | .ptr d => uptoBulk d + 1
  | .slice elems spare => uptoBulkAll elems + uptoBulkAll spare + 1
  | .agg parts => uptoBulkAll parts + 1
  | .iface _ d => uptoBulk d + 1
  | .map entries => uptoBulkEntries entries + 1
  | .held _ => 1
def uptoBulkAll {H : Type} : List (DataW H) → Nat
  | [] => 0
  | d :: r => uptoBulk d + uptoBulkAll r
def uptoBulkEntries {H : Type} : List (Lit × DataW H) → Nat
  | [] => 0
  | x :: r => uptoBulkEntry x + uptoBulkEntries r
def uptoBulkEntry {H : Type} : Lit × DataW H → Nat
  | (.string bytes, d) => bytes.length + uptoBulk d + 1
  | (_, d) => uptoBulk d + 1
 end
def uptoSmall : (H : Type) → List (DataW H) → Bool := fun _ ds => decide (uptoBulkAll ds ≤ 1048576)
def OpenSpec.upto (s : _root_.Go.ChangeSpec) : _root_.Go.OpenSpec := { _root_.Go.OpenSpec.ofChange s with cond := some uptoSmall }

/-- 'quilletlaw04.SubPoints', WHERE WHAT IT READS IS OF BULK AT MOST 1048576: true; the input reads as it did. -/
def subPointsUptoRow : OpenClaim := { program := "ytajoodkapiifcaagreat", sum := "5a8aeb5c08fec1418bd66aa8ff64cf74e478109549120d7b8a248848388719a7", func := "quillet/quilletlaw04.SubPoints", spec := "subPoints", inPlace := ["math.Float64bits", "math.Float64frombits"], unfollowed := true, recurses := true, apart := false, narrowed := true }
def SubPointsUptoSaid : Prop := subPointsUptoRow.holds Tryz.pinned (OpenSpec.upto subPointsSpec)

/-- 'quilletlaw04.SubDecodes', WHERE WHAT IT READS IS OF BULK AT MOST 1048576: true; the input reads as it did. -/
def subDecodesUptoRow : OpenClaim := { program := "ytajoodkapiifcaagreat", sum := "5a8aeb5c08fec1418bd66aa8ff64cf74e478109549120d7b8a248848388719a7", func := "quillet/quilletlaw04.SubDecodes", spec := "subDecodes", inPlace := ["math.Float64bits", "math.Float64frombits"], unfollowed := true, recurses := true, apart := false, narrowed := true }
def SubDecodesUptoSaid : Prop := subDecodesUptoRow.holds Tryz.pinned (OpenSpec.upto subDecodesSpec)

/-- 'quilletlaw04.SubBack', WHERE WHAT IT READS IS OF BULK AT MOST 1048576: true; the input reads as it did. -/
def subBackUptoRow : OpenClaim := { program := "ytajoodkapiifcaagreat", sum := "5a8aeb5c08fec1418bd66aa8ff64cf74e478109549120d7b8a248848388719a7", func := "quillet/quilletlaw04.SubBack", spec := "subBack", inPlace := ["math.Float64bits", "math.Float64frombits"], unfollowed := true, recurses := true, apart := false, narrowed := true }
def SubBackUptoSaid : Prop := subBackUptoRow.holds Tryz.pinned (OpenSpec.upto subBackSpec)

end Rows
end Go.Proofs.YtajoodkapiifcaaGreat
