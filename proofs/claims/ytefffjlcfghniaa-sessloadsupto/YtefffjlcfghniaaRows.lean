/-
  No cell of these rows narrows 'for every input' (looked for: loops, veiled, ifaces, maps, wideKeys, modest, calm, conditions, laid).
  DERIVED. THE GIVEN ROWS OF THIS SEAT. 3 by the template 'for every input the law returns true; each argument reads behind the call as it read before'; 0 by the template 'total and deterministic' (their statements: YtefffjlcfghniaaTotals.lean).
  GIVEN WITH THE SEED: the statements are not yours to turn. If you find one false, say at which input.
  Laid BY PROGRAM, IN A SANDBOX (cutbox-rows.mjs): the forced cells as the released guide's own fill.sh prints them over the translation 3d5a9b0ad4fe6da7… (all of the seat's roots in one cut). By AI agents, Wed Nov 11 2026. No macro, syntax, notation, axiom, sorry.
-/
import Derived.Test.YtefffjlcfghniaaChecked
import GoSem.Claim
import GoSem.ClaimJoined
import GoSem.ClaimMapViews
import Derived.JoinedTies
import Derived.KernelRfl
namespace Go.Proofs.Ytefffjlcfghniaa
/- THE CELL 'sum', in the pinned program and in every row, IS THE sha256 OF THE DUMP (.gsa) THAT YtefffjlcfghniaaProg.lean LOADS. Nothing in Lean hashes anything: it is a label: what it is worth is what the hold of that sum in a sandbox is worth. -/
noncomputable def Try.pinned : Pinned := { name := "ytefffjlcfghniaa", sum := "3d5a9b0ad4fe6da744f7834755d563b9e9aa958e51d862fb6e3ed3b2e4f09f5e", checked := Try.checked }
namespace Rows
def none {H : Type} : Left H := { results := [], args := [] }

/-- 'quilletlaw13.SessBack': WHATEVER THE INPUT: true; the input reads as it did. -/
def sessBackSpec : ChangeSpec := { name := "sessBack", fn := fun _ => fun
  | [d1, d2] => { results := [.lit (.bool true)], args := [d1, d2] }
  | _ => none }
def sessBackRow : OpenClaim := { program := "ytefffjlcfghniaa", sum := "3d5a9b0ad4fe6da744f7834755d563b9e9aa958e51d862fb6e3ed3b2e4f09f5e", func := "quillet/quilletlaw13.SessBack", spec := "sessBack", inPlace := ["slices.overlaps[quillet/sess.Item]", "math.Float64frombits", "math.Float64bits"], unfollowed := true, recurses := true, apart := false }
def SessBackSaid : Prop := sessBackRow.holds Try.pinned (OpenSpec.ofChange sessBackSpec)

/-- ITS FALSE NEIGHBOUR: 'it returns false'. Refute it at one input. -/
def sessBackWrong : ChangeSpec := { name := "sessBack", fn := fun _ => fun
  | [d1, d2] => { results := [.lit (.bool false)], args := [d1, d2] }
  | _ => none }
def SessBackWrongFalsely : Prop := sessBackRow.holds Try.pinned (OpenSpec.ofChange sessBackWrong)

/-- 'quilletlaw13.SessPlays': WHATEVER THE INPUT: true; the input reads as it did. -/
def sessPlaysSpec : ChangeSpec := { name := "sessPlays", fn := fun _ => fun
  | [d1, d2, d3] => { results := [.lit (.bool true)], args := [d1, d2, d3] }
  | _ => none }
def sessPlaysRow : OpenClaim := { program := "ytefffjlcfghniaa", sum := "3d5a9b0ad4fe6da744f7834755d563b9e9aa958e51d862fb6e3ed3b2e4f09f5e", func := "quillet/quilletlaw13.SessPlays", spec := "sessPlays", inPlace := ["slices.overlaps[quillet/sess.Item]", "math.Float64frombits", "math.Float64bits"], unfollowed := true, recurses := true, apart := false }
def SessPlaysSaid : Prop := sessPlaysRow.holds Try.pinned (OpenSpec.ofChange sessPlaysSpec)

/-- ITS FALSE NEIGHBOUR: 'it returns false'. Refute it at one input. -/
def sessPlaysWrong : ChangeSpec := { name := "sessPlays", fn := fun _ => fun
  | [d1, d2, d3] => { results := [.lit (.bool false)], args := [d1, d2, d3] }
  | _ => none }
def SessPlaysWrongFalsely : Prop := sessPlaysRow.holds Try.pinned (OpenSpec.ofChange sessPlaysWrong)

/-- 'quilletlaw13.SessLoads': WHATEVER THE INPUT: true; the input reads as it did. -/
def sessLoadsSpec : ChangeSpec := { name := "sessLoads", fn := fun _ => fun
  | [d] => { results := [.lit (.bool true)], args := [d] }
  | _ => none }
def sessLoadsRow : OpenClaim := { program := "ytefffjlcfghniaa", sum := "3d5a9b0ad4fe6da744f7834755d563b9e9aa958e51d862fb6e3ed3b2e4f09f5e", func := "quillet/quilletlaw13.SessLoads", spec := "sessLoads", inPlace := ["slices.overlaps[quillet/sess.Item]", "math.Float64frombits", "math.Float64bits"], unfollowed := true, recurses := true, apart := false }
def SessLoadsSaid : Prop := sessLoadsRow.holds Try.pinned (OpenSpec.ofChange sessLoadsSpec)

/-- ITS FALSE NEIGHBOUR: 'it returns false'. Refute it at one input. -/
def sessLoadsWrong : ChangeSpec := { name := "sessLoads", fn := fun _ => fun
  | [d] => { results := [.lit (.bool false)], args := [d] }
  | _ => none }
def SessLoadsWrongFalsely : Prop := sessLoadsRow.holds Try.pinned (OpenSpec.ofChange sessLoadsWrong)

/- THE SECOND FORM. 'bulk': how many values and letters a reading holds, each counted each time it is reached (what is shared counts as often as it is met; a slice's spare places count too). A statement '..UptoSaid' is the law's where the arguments, and the package variables that the reading takes, are together of bulk at most 1048576: NARROWER than '..Said'. Prove '..Said' where nothing that the law and all that it calls make is longer than what came in: it says more and counts as full. Else prove '..UptoSaid'. A law counts once. -/
mutual
def uptoBulk {H : Type} : DataW H → Nat
  | .lit (.string bytes) => bytes.length + 1
  | .lit _ => 1
  | .nil => 1
  | .ptr d => uptoBulk d + 1
  | .slice elems spare => uptoBulkAll elems + uptoBulkAll spare + 1
  | .agg parts => uptoBulkAll parts + 1
  | .iface _ d => uptoBulk d + 1
  | .map entries => uptoBulkEntries entries + 1
  | .held _ => 1
def uptoBulkAll {H : Type} : List (DataW H) → Nat
  | [] => 0
  | d :: r => uptoBulk d + uptoBulkAll r
def uptoBulkEntries {H : Type} : List (Lit × DataW H) → Nat
  | [] => 0
  | x :: r => uptoBulkEntry x + uptoBulkEntries r
def uptoBulkEntry {H : Type} : Lit × DataW H → Nat
  | (.string bytes, d) => bytes.length + uptoBulk d + 1
  | (_, d) => uptoBulk d + 1
 end
def uptoSmall : (H : Type) → List (DataW H) → Bool := fun _ ds => decide (uptoBulkAll ds ≤ 1048576)
def OpenSpec.upto (s : _root_.Go.ChangeSpec) : _root_.Go.OpenSpec := { _root_.Go.OpenSpec.ofChange s with cond := some uptoSmall }

/-- 'quilletlaw13.SessBack', WHERE WHAT IT READS IS OF BULK AT MOST 1048576: true; the input reads as it did. -/
def sessBackUptoRow : OpenClaim := { program := "ytefffjlcfghniaa", sum := "3d5a9b0ad4fe6da744f7834755d563b9e9aa958e51d862fb6e3ed3b2e4f09f5e", func := "quillet/quilletlaw13.SessBack", spec := "sessBack", inPlace := ["slices.overlaps[quillet/sess.Item]", "math.Float64frombits", "math.Float64bits"], unfollowed := true, recurses := true, apart := false, narrowed := true }
def SessBackUptoSaid : Prop := sessBackUptoRow.holds Try.pinned (OpenSpec.upto sessBackSpec)

/-- 'quilletlaw13.SessPlays', WHERE WHAT IT READS IS OF BULK AT MOST 1048576: true; the input reads as it did. -/
def sessPlaysUptoRow : OpenClaim := { program := "ytefffjlcfghniaa", sum := "3d5a9b0ad4fe6da744f7834755d563b9e9aa958e51d862fb6e3ed3b2e4f09f5e", func := "quillet/quilletlaw13.SessPlays", spec := "sessPlays", inPlace := ["slices.overlaps[quillet/sess.Item]", "math.Float64frombits", "math.Float64bits"], unfollowed := true, recurses := true, apart := false, narrowed := true }
def SessPlaysUptoSaid : Prop := sessPlaysUptoRow.holds Try.pinned (OpenSpec.upto sessPlaysSpec)

/-- 'quilletlaw13.SessLoads', WHERE WHAT IT READS IS OF BULK AT MOST 1048576: true; the input reads as it did. -/
def sessLoadsUptoRow : OpenClaim := { program := "ytefffjlcfghniaa", sum := "3d5a9b0ad4fe6da744f7834755d563b9e9aa958e51d862fb6e3ed3b2e4f09f5e", func := "quillet/quilletlaw13.SessLoads", spec := "sessLoads", inPlace := ["slices.overlaps[quillet/sess.Item]", "math.Float64frombits", "math.Float64bits"], unfollowed := true, recurses := true, apart := false, narrowed := true }
def SessLoadsUptoSaid : Prop := sessLoadsUptoRow.holds Try.pinned (OpenSpec.upto sessLoadsSpec)

end Rows
end Go.Proofs.Ytefffjlcfghniaa
