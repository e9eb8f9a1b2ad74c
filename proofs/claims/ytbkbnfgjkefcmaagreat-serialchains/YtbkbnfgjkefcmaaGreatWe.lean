/- sub.Canon at every submission; conditions: the lengths fit. -/
import Derived.Test.YtbkbnfgjkefcmaaGreatWd
namespace Go.Proofs.YtbkbnfgjkefcmaaGreat
open Go.RowKit
set_option linter.unusedVariables false
attribute [local go_sem] run_bits run_frombits run_store_float eqF
/-- The error of a form, by its numbers, its lists' lengths, a NaN among its keys, a wrong span. -/
def canC (m c k z : Bool) : Int := if m = true then 43 else if c = true then 3 else if k = true then 40 else if z = true then 41 else 0
/-- What Canon answers. -/
def CanPost (P : Option Addr → Option Addr → Option Addr → Nat → Nat → Nat → World → Prop) (s1 s2 s3 : Int) (m1 m2 m3 : Nat) (cc : Int) (w : World) (e : Ending) (w' : World) : Prop := ∃ (p1 p2 p3 : Option Addr) (q1 q2 q3 : Nat), (if cc = 0 then e = .returned (.tuple #[.agg #[.int .i64 s1, .int .i64 s2, .int .i64 s3, .slice p1 m1 q1, .slice p2 m2 q2, .slice p3 m3 q3], .int .i64 0]) else e = .returned (.tuple #[.agg #[.int .i64 0, .int .i64 0, .int .i64 0, .slice none 0 0, .slice none 0 0, .slice none 0 0], .int .i64 (cc)])) ∧ P p1 p2 p3 q1 q2 q3 w' ∧ Old w w'

end Go.Proofs.YtbkbnfgjkefcmaaGreat
