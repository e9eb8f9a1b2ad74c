/-
  No cell of these rows narrows 'for every input' (looked for: loops, veiled, ifaces, maps, wideKeys, modest, calm, conditions, laid).
  DERIVED. THE GIVEN ROWS OF THIS SEAT. 5 by the template 'for every input the law returns true; each argument reads behind the call as it read before'; 0 by the template 'total and deterministic' (their statements: YtcicefpcledmgaaTotals.lean).
  GIVEN WITH THE SEED: the statements are not yours to turn. If you find one false, say at which input.
  Laid BY PROGRAM, IN A SANDBOX (cutbox-rows.mjs): the forced cells as the released guide's own fill.sh prints them over the translation 40638f1e038fcf84… (all of the seat's roots in one cut). By AI agents, Wed Nov 11 2026. No macro, syntax, notation, axiom, sorry.
-/
import Derived.Test.YtcicefpcledmgaaChecked
import GoSem.Claim
import GoSem.ClaimJoined
import GoSem.ClaimMapViews
import Derived.JoinedTies
import Derived.KernelRfl
namespace Go.Proofs.Ytcicefpcledmgaa
/- THE CELL 'sum', in the pinned program and in every row, IS THE sha256 OF THE DUMP (.gsa) THAT YtcicefpcledmgaaProg.lean LOADS. Nothing in Lean hashes anything: it is a label: what it is worth is what the hold of that sum in a sandbox is worth. -/
noncomputable def Try.pinned : Pinned := { name := "ytcicefpcledmgaa", sum := "40638f1e038fcf84951331c3ca80953fbc6c637ceb555cfc0f2edbb1173fa893", checked := Try.checked }
namespace Rows
def none {H : Type} : Left H := { results := [], args := [] }

/-- 'quilletlaw15.ConfChanges': WHATEVER THE INPUT: true; the input reads as it did. -/
def confChangesSpec : ChangeSpec := { name := "confChanges", fn := fun _ => fun
  | [d1, d2, d3] => { results := [.lit (.bool true)], args := [d1, d2, d3] }
  | _ => none }
def confChangesRow : OpenClaim := { program := "ytcicefpcledmgaa", sum := "40638f1e038fcf84951331c3ca80953fbc6c637ceb555cfc0f2edbb1173fa893", func := "quillet/quilletlaw15.ConfChanges", spec := "confChanges", inPlace := ["slices.overlaps[int]", "math.Float64frombits", "math.Float64bits"], unfollowed := true, recurses := true, apart := false }
def ConfChangesSaid : Prop := confChangesRow.holds Try.pinned (OpenSpec.ofChange confChangesSpec)

/-- ITS FALSE NEIGHBOUR: 'it returns false'. Refute it at one input. -/
def confChangesWrong : ChangeSpec := { name := "confChanges", fn := fun _ => fun
  | [d1, d2, d3] => { results := [.lit (.bool false)], args := [d1, d2, d3] }
  | _ => none }
def ConfChangesWrongFalsely : Prop := confChangesRow.holds Try.pinned (OpenSpec.ofChange confChangesWrong)

/-- 'quilletlaw15.ConfQuorums': WHATEVER THE INPUT: true; the input reads as it did. -/
def confQuorumsSpec : ChangeSpec := { name := "confQuorums", fn := fun _ => fun
  | [d1, d2, d3, d4, d5] => { results := [.lit (.bool true)], args := [d1, d2, d3, d4, d5] }
  | _ => none }
def confQuorumsRow : OpenClaim := { program := "ytcicefpcledmgaa", sum := "40638f1e038fcf84951331c3ca80953fbc6c637ceb555cfc0f2edbb1173fa893", func := "quillet/quilletlaw15.ConfQuorums", spec := "confQuorums", inPlace := ["slices.overlaps[int]", "math.Float64frombits", "math.Float64bits"], unfollowed := true, recurses := true, apart := false }
def ConfQuorumsSaid : Prop := confQuorumsRow.holds Try.pinned (OpenSpec.ofChange confQuorumsSpec)

/-- ITS FALSE NEIGHBOUR: 'it returns false'. Refute it at one input. -/
def confQuorumsWrong : ChangeSpec := { name := "confQuorums", fn := fun _ => fun
  | [d1, d2, d3, d4, d5] => { results := [.lit (.bool false)], args := [d1, d2, d3, d4, d5] }
  | _ => none }
def ConfQuorumsWrongFalsely : Prop := confQuorumsRow.holds Try.pinned (OpenSpec.ofChange confQuorumsWrong)

/-- 'quilletlaw15.ConfNext': WHATEVER THE INPUT: true; the input reads as it did. -/
def confNextSpec : ChangeSpec := { name := "confNext", fn := fun _ => fun
  | [d1, d2, d3] => { results := [.lit (.bool true)], args := [d1, d2, d3] }
  | _ => none }
def confNextRow : OpenClaim := { program := "ytcicefpcledmgaa", sum := "40638f1e038fcf84951331c3ca80953fbc6c637ceb555cfc0f2edbb1173fa893", func := "quillet/quilletlaw15.ConfNext", spec := "confNext", inPlace := ["slices.overlaps[int]", "math.Float64frombits", "math.Float64bits"], unfollowed := true, recurses := true, apart := false }
def ConfNextSaid : Prop := confNextRow.holds Try.pinned (OpenSpec.ofChange confNextSpec)

/-- ITS FALSE NEIGHBOUR: 'it returns false'. Refute it at one input. -/
def confNextWrong : ChangeSpec := { name := "confNext", fn := fun _ => fun
  | [d1, d2, d3] => { results := [.lit (.bool false)], args := [d1, d2, d3] }
  | _ => none }
def ConfNextWrongFalsely : Prop := confNextRow.holds Try.pinned (OpenSpec.ofChange confNextWrong)

/-- 'quilletlaw15.ConfRight': WHATEVER THE INPUT: true; the input reads as it did. -/
def confRightSpec : ChangeSpec := { name := "confRight", fn := fun _ => fun
  | [d1, d2] => { results := [.lit (.bool true)], args := [d1, d2] }
  | _ => none }
def confRightRow : OpenClaim := { program := "ytcicefpcledmgaa", sum := "40638f1e038fcf84951331c3ca80953fbc6c637ceb555cfc0f2edbb1173fa893", func := "quillet/quilletlaw15.ConfRight", spec := "confRight", inPlace := ["slices.overlaps[int]", "math.Float64frombits", "math.Float64bits"], unfollowed := true, recurses := true, apart := false }
def ConfRightSaid : Prop := confRightRow.holds Try.pinned (OpenSpec.ofChange confRightSpec)

/-- ITS FALSE NEIGHBOUR: 'it returns false'. Refute it at one input. -/
def confRightWrong : ChangeSpec := { name := "confRight", fn := fun _ => fun
  | [d1, d2] => { results := [.lit (.bool false)], args := [d1, d2] }
  | _ => none }
def ConfRightWrongFalsely : Prop := confRightRow.holds Try.pinned (OpenSpec.ofChange confRightWrong)

/-- 'quilletlaw15.ConfLoads': WHATEVER THE INPUT: true; the input reads as it did. -/
def confLoadsSpec : ChangeSpec := { name := "confLoads", fn := fun _ => fun
  | [d] => { results := [.lit (.bool true)], args := [d] }
  | _ => none }
def confLoadsRow : OpenClaim := { program := "ytcicefpcledmgaa", sum := "40638f1e038fcf84951331c3ca80953fbc6c637ceb555cfc0f2edbb1173fa893", func := "quillet/quilletlaw15.ConfLoads", spec := "confLoads", inPlace := ["slices.overlaps[int]", "math.Float64frombits", "math.Float64bits"], unfollowed := true, recurses := true, apart := false }
def ConfLoadsSaid : Prop := confLoadsRow.holds Try.pinned (OpenSpec.ofChange confLoadsSpec)

/-- ITS FALSE NEIGHBOUR: 'it returns false'. Refute it at one input. -/
def confLoadsWrong : ChangeSpec := { name := "confLoads", fn := fun _ => fun
  | [d] => { results := [.lit (.bool false)], args := [d] }
  | _ => none }
def ConfLoadsWrongFalsely : Prop := confLoadsRow.holds Try.pinned (OpenSpec.ofChange confLoadsWrong)

/- THE SECOND FORM. 'bulk': how many values and letters a reading holds, each counted each time it is reached (what is shared counts as often as it is met; a slice's spare places count too). A statement '..UptoSaid' is the law's where the arguments, and the package variables that the reading takes, are together of bulk at most 1048576: NARROWER than '..Said'. Prove '..Said' where nothing that the law and all that it calls make is longer than what came in: it says more and counts as full. Else prove '..UptoSaid'. A law counts once. -/
mutual
def uptoBulk {H : Type} : DataW H → Nat
  | .lit (.string bytes) => bytes.length + 1
  | .lit _ => 1
  | .nil => 1
  | .ptr d => uptoBulk d + 1
  | .slice elems spare => uptoBulkAll elems + uptoBulkAll spare + 1
  | .agg parts => uptoBulkAll parts + 1
  | .iface _ d => uptoBulk d + 1
  | .map entries => uptoBulkEntries entries + 1
  | .held _ => 1
def uptoBulkAll {H : Type} : List (DataW H) → Nat
  | [] => 0
  | d :: r => uptoBulk d + uptoBulkAll r
def uptoBulkEntries {H : Type} : List (Lit × DataW H) → Nat
  | [] => 0
  | x :: r => uptoBulkEntry x + uptoBulkEntries r
def uptoBulkEntry {H : Type} : Lit × DataW H → Nat
  | (.string bytes, d) => bytes.length + uptoBulk d + 1
  | (_, d) => uptoBulk d + 1
 end
def uptoSmall : (H : Type) → List (DataW H) → Bool := fun _ ds => decide (uptoBulkAll ds ≤ 1048576)
def OpenSpec.upto (s : _root_.Go.ChangeSpec) : _root_.Go.OpenSpec := { _root_.Go.OpenSpec.ofChange s with cond := some uptoSmall }

/-- 'quilletlaw15.ConfChanges', WHERE WHAT IT READS IS OF BULK AT MOST 1048576: true; the input reads as it did. -/
def confChangesUptoRow : OpenClaim := { program := "ytcicefpcledmgaa", sum := "40638f1e038fcf84951331c3ca80953fbc6c637ceb555cfc0f2edbb1173fa893", func := "quillet/quilletlaw15.ConfChanges", spec := "confChanges", inPlace := ["slices.overlaps[int]", "math.Float64frombits", "math.Float64bits"], unfollowed := true, recurses := true, apart := false, narrowed := true }
def ConfChangesUptoSaid : Prop := confChangesUptoRow.holds Try.pinned (OpenSpec.upto confChangesSpec)

/-- 'quilletlaw15.ConfQuorums', WHERE WHAT IT READS IS OF BULK AT MOST 1048576: true; the input reads as it did. -/
def confQuorumsUptoRow : OpenClaim := { program := "ytcicefpcledmgaa", sum := "40638f1e038fcf84951331c3ca80953fbc6c637ceb555cfc0f2edbb1173fa893", func := "quillet/quilletlaw15.ConfQuorums", spec := "confQuorums", inPlace := ["slices.overlaps[int]", "math.Float64frombits", "math.Float64bits"], unfollowed := true, recurses := true, apart := false, narrowed := true }
def ConfQuorumsUptoSaid : Prop := confQuorumsUptoRow.holds Try.pinned (OpenSpec.upto confQuorumsSpec)

/-- 'quilletlaw15.ConfNext', WHERE WHAT IT READS IS OF BULK AT MOST 1048576: true; the input reads as it did. -/
def confNextUptoRow : OpenClaim := { program := "ytcicefpcledmgaa", sum := "40638f1e038fcf84951331c3ca80953fbc6c637ceb555cfc0f2edbb1173fa893", func := "quillet/quilletlaw15.ConfNext", spec := "confNext", inPlace := ["slices.overlaps[int]", "math.Float64frombits", "math.Float64bits"], unfollowed := true, recurses := true, apart := false, narrowed := true }
def ConfNextUptoSaid : Prop := confNextUptoRow.holds Try.pinned (OpenSpec.upto confNextSpec)

/-- 'quilletlaw15.ConfRight', WHERE WHAT IT READS IS OF BULK AT MOST 1048576: true; the input reads as it did. -/
def confRightUptoRow : OpenClaim := { program := "ytcicefpcledmgaa", sum := "40638f1e038fcf84951331c3ca80953fbc6c637ceb555cfc0f2edbb1173fa893", func := "quillet/quilletlaw15.ConfRight", spec := "confRight", inPlace := ["slices.overlaps[int]", "math.Float64frombits", "math.Float64bits"], unfollowed := true, recurses := true, apart := false, narrowed := true }
def ConfRightUptoSaid : Prop := confRightUptoRow.holds Try.pinned (OpenSpec.upto confRightSpec)

/-- 'quilletlaw15.ConfLoads', WHERE WHAT IT READS IS OF BULK AT MOST 1048576: true; the input reads as it did. -/
def confLoadsUptoRow : OpenClaim := { program := "ytcicefpcledmgaa", sum := "40638f1e038fcf84951331c3ca80953fbc6c637ceb555cfc0f2edbb1173fa893", func := "quillet/quilletlaw15.ConfLoads", spec := "confLoads", inPlace := ["slices.overlaps[int]", "math.Float64frombits", "math.Float64bits"], unfollowed := true, recurses := true, apart := false, narrowed := true }
def ConfLoadsUptoSaid : Prop := confLoadsUptoRow.holds Try.pinned (OpenSpec.upto confLoadsSpec)

end Rows
end Go.Proofs.Ytcicefpcledmgaa
