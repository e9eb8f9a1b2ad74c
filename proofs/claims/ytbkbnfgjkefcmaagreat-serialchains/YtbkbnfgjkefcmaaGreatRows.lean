/-
  No cell of these rows narrows 'for every input' (looked for: loops, veiled, ifaces, maps, wideKeys, modest, calm, conditions, laid).
  DERIVED. THE GIVEN ROWS OF THIS SEAT. 4 by the template 'for every input the law returns true; each argument reads behind the call as it read before'; 0 by the template 'total and deterministic' (their statements: YtbkbnfgjkefcmaaGreatTotals.lean).
  GIVEN WITH THE SEED: the statements are not yours to turn. If you find one false, say at which input.
  Laid BY PROGRAM, IN A SANDBOX (cutbox-rows.mjs): the forced cells as the released guide's own fill.sh prints them over the translation a8062dae71dc90f7… (all of the seat's roots in one cut). By AI agents, Wed Nov 11 2026. No macro, syntax, notation, axiom, sorry.
-/
import Derived.Test.YtbkbnfgjkefcmaaGreatChecked
import GoSem.Claim
import GoSem.ClaimJoined
import GoSem.ClaimMapViews
import Derived.JoinedTies
import Derived.KernelRfl
namespace Go.Proofs.YtbkbnfgjkefcmaaGreat
/- THE CELL 'sum', in the pinned program and in every row, IS THE sha256 OF THE DUMP (.gsa) THAT YtbkbnfgjkefcmaaGreatProg.lean LOADS. Nothing in Lean hashes anything: it is a label: what it is worth is what the hold of that sum in a sandbox is worth. -/
noncomputable def Tryz.pinned : Pinned := { name := "ytbkbnfgjkefcmaagreat", sum := "a8062dae71dc90f7cbc090cb0c8f76c9b1b9bc8f64174fe7b0b82505ab0fa881", checked := Tryz.checked }
namespace Rows
def none {H : Type} : Left H := { results := [], args := [] }

/-- 'quilletlaw12.SerialRight': WHATEVER THE INPUT: true; the input reads as it did. -/
def serialRightSpec : ChangeSpec := { name := "serialRight", fn := fun _ => fun
  | [d] => { results := [.lit (.bool true)], args := [d] }
  | _ => none }
def serialRightRow : OpenClaim := { program := "ytbkbnfgjkefcmaagreat", sum := "a8062dae71dc90f7cbc090cb0c8f76c9b1b9bc8f64174fe7b0b82505ab0fa881", func := "quillet/quilletlaw12.SerialRight", spec := "serialRight", inPlace := ["math.Float64bits", "math.Float64frombits"], unfollowed := true, recurses := true, apart := false }
def SerialRightSaid : Prop := serialRightRow.holds Tryz.pinned (OpenSpec.ofChange serialRightSpec)

/-- ITS FALSE NEIGHBOUR: 'it returns false'. Refute it at one input. -/
def serialRightWrong : ChangeSpec := { name := "serialRight", fn := fun _ => fun
  | [d] => { results := [.lit (.bool false)], args := [d] }
  | _ => none }
def SerialRightWrongFalsely : Prop := serialRightRow.holds Tryz.pinned (OpenSpec.ofChange serialRightWrong)

/-- 'quilletlaw12.SerialOrders': WHATEVER THE INPUT: true; the input reads as it did. -/
def serialOrdersSpec : ChangeSpec := { name := "serialOrders", fn := fun _ => fun
  | [d] => { results := [.lit (.bool true)], args := [d] }
  | _ => none }
def serialOrdersRow : OpenClaim := { program := "ytbkbnfgjkefcmaagreat", sum := "a8062dae71dc90f7cbc090cb0c8f76c9b1b9bc8f64174fe7b0b82505ab0fa881", func := "quillet/quilletlaw12.SerialOrders", spec := "serialOrders", inPlace := ["math.Float64bits", "math.Float64frombits"], unfollowed := true, recurses := true, apart := false }
def SerialOrdersSaid : Prop := serialOrdersRow.holds Tryz.pinned (OpenSpec.ofChange serialOrdersSpec)

/-- ITS FALSE NEIGHBOUR: 'it returns false'. Refute it at one input. -/
def serialOrdersWrong : ChangeSpec := { name := "serialOrders", fn := fun _ => fun
  | [d] => { results := [.lit (.bool false)], args := [d] }
  | _ => none }
def SerialOrdersWrongFalsely : Prop := serialOrdersRow.holds Tryz.pinned (OpenSpec.ofChange serialOrdersWrong)

/-- 'quilletlaw12.SerialReads': WHATEVER THE INPUT: true; the input reads as it did. -/
def serialReadsSpec : ChangeSpec := { name := "serialReads", fn := fun _ => fun
  | [d1, d2] => { results := [.lit (.bool true)], args := [d1, d2] }
  | _ => none }
def serialReadsRow : OpenClaim := { program := "ytbkbnfgjkefcmaagreat", sum := "a8062dae71dc90f7cbc090cb0c8f76c9b1b9bc8f64174fe7b0b82505ab0fa881", func := "quillet/quilletlaw12.SerialReads", spec := "serialReads", inPlace := ["math.Float64bits", "math.Float64frombits"], unfollowed := true, recurses := true, apart := false }
def SerialReadsSaid : Prop := serialReadsRow.holds Tryz.pinned (OpenSpec.ofChange serialReadsSpec)

/-- ITS FALSE NEIGHBOUR: 'it returns false'. Refute it at one input. -/
def serialReadsWrong : ChangeSpec := { name := "serialReads", fn := fun _ => fun
  | [d1, d2] => { results := [.lit (.bool false)], args := [d1, d2] }
  | _ => none }
def SerialReadsWrongFalsely : Prop := serialReadsRow.holds Tryz.pinned (OpenSpec.ofChange serialReadsWrong)

/-- 'quilletlaw12.SerialChains': WHATEVER THE INPUT: true; the input reads as it did. -/
def serialChainsSpec : ChangeSpec := { name := "serialChains", fn := fun _ => fun
  | [d1, d2] => { results := [.lit (.bool true)], args := [d1, d2] }
  | _ => none }
def serialChainsRow : OpenClaim := { program := "ytbkbnfgjkefcmaagreat", sum := "a8062dae71dc90f7cbc090cb0c8f76c9b1b9bc8f64174fe7b0b82505ab0fa881", func := "quillet/quilletlaw12.SerialChains", spec := "serialChains", inPlace := ["math.Float64bits", "math.Float64frombits"], unfollowed := true, recurses := true, apart := false }
def SerialChainsSaid : Prop := serialChainsRow.holds Tryz.pinned (OpenSpec.ofChange serialChainsSpec)

/-- ITS FALSE NEIGHBOUR: 'it returns false'. Refute it at one input. -/
def serialChainsWrong : ChangeSpec := { name := "serialChains", fn := fun _ => fun
  | [d1, d2] => { results := [.lit (.bool false)], args := [d1, d2] }
  | _ => none }
def SerialChainsWrongFalsely : Prop := serialChainsRow.holds Tryz.pinned (OpenSpec.ofChange serialChainsWrong)

/- THE SECOND FORM. 'bulk': how many values and letters a reading holds, each counted each time it is reached (what is shared counts as often as it is met; a slice's spare places count too). A statement '..UptoSaid' is the law's where the arguments, and the package variables that the reading takes, are together of bulk at most 1048576: NARROWER than '..Said'. Prove '..Said' where nothing that the law and all that it calls make is longer than what came in: it says more and counts as full. Else prove '..UptoSaid'. A law counts once. -/
mutual
def uptoBulk {H : Type} : DataW H → Nat
  | .lit (.string bytes) => bytes.length + 1
  | .lit _ => 1
  | .nil => 1
  | .ptr d => uptoBulk d + 1
  | .slice elems spare => uptoBulkAll elems + uptoBulkAll spare + 1
  | .agg parts => uptoBulkAll parts + 1
  | .iface _ d => uptoBulk d + 1
  | .map entries => uptoBulkEntries entries + 1
  | .held _ => 1
def uptoBulkAll {H : Type} : List (DataW H) → Nat
  | [] => 0
  | d :: r => uptoBulk d + uptoBulkAll r
def uptoBulkEntries {H : Type} : List (Lit × DataW H) → Nat
  | [] => 0
  | x :: r => uptoBulkEntry x + uptoBulkEntries r
def uptoBulkEntry {H : Type} : Lit × DataW H → Nat
  | (.string bytes, d) => bytes.length + uptoBulk d + 1
  | (_, d) => uptoBulk d + 1
 end
def uptoSmall : (H : Type) → List (DataW H) → Bool := fun _ ds => decide (uptoBulkAll ds ≤ 1048576)
def OpenSpec.upto (s : _root_.Go.ChangeSpec) : _root_.Go.OpenSpec := { _root_.Go.OpenSpec.ofChange s with cond := some uptoSmall }

/-- 'quilletlaw12.SerialRight', WHERE WHAT IT READS IS OF BULK AT MOST 1048576: true; the input reads as it did. -/
def serialRightUptoRow : OpenClaim := { program := "ytbkbnfgjkefcmaagreat", sum := "a8062dae71dc90f7cbc090cb0c8f76c9b1b9bc8f64174fe7b0b82505ab0fa881", func := "quillet/quilletlaw12.SerialRight", spec := "serialRight", inPlace := ["math.Float64bits", "math.Float64frombits"], unfollowed := true, recurses := true, apart := false, narrowed := true }
def SerialRightUptoSaid : Prop := serialRightUptoRow.holds Tryz.pinned (OpenSpec.upto serialRightSpec)

/-- 'quilletlaw12.SerialOrders', WHERE WHAT IT READS IS OF BULK AT MOST 1048576: true; the input reads as it did. -/
def serialOrdersUptoRow : OpenClaim := { program := "ytbkbnfgjkefcmaagreat", sum := "a8062dae71dc90f7cbc090cb0c8f76c9b1b9bc8f64174fe7b0b82505ab0fa881", func := "quillet/quilletlaw12.SerialOrders", spec := "serialOrders", inPlace := ["math.Float64bits", "math.Float64frombits"], unfollowed := true, recurses := true, apart := false, narrowed := true }
def SerialOrdersUptoSaid : Prop := serialOrdersUptoRow.holds Tryz.pinned (OpenSpec.upto serialOrdersSpec)

/-- 'quilletlaw12.SerialReads', WHERE WHAT IT READS IS OF BULK AT MOST 1048576: true; the input reads as it did. -/
def serialReadsUptoRow : OpenClaim := { program := "ytbkbnfgjkefcmaagreat", sum := "a8062dae71dc90f7cbc090cb0c8f76c9b1b9bc8f64174fe7b0b82505ab0fa881", func := "quillet/quilletlaw12.SerialReads", spec := "serialReads", inPlace := ["math.Float64bits", "math.Float64frombits"], unfollowed := true, recurses := true, apart := false, narrowed := true }
def SerialReadsUptoSaid : Prop := serialReadsUptoRow.holds Tryz.pinned (OpenSpec.upto serialReadsSpec)

/-- 'quilletlaw12.SerialChains', WHERE WHAT IT READS IS OF BULK AT MOST 1048576: true; the input reads as it did. -/
def serialChainsUptoRow : OpenClaim := { program := "ytbkbnfgjkefcmaagreat", sum := "a8062dae71dc90f7cbc090cb0c8f76c9b1b9bc8f64174fe7b0b82505ab0fa881", func := "quillet/quilletlaw12.SerialChains", spec := "serialChains", inPlace := ["math.Float64bits", "math.Float64frombits"], unfollowed := true, recurses := true, apart := false, narrowed := true }
def SerialChainsUptoSaid : Prop := serialChainsUptoRow.holds Tryz.pinned (OpenSpec.upto serialChainsSpec)

end Rows
end Go.Proofs.YtbkbnfgjkefcmaaGreat
