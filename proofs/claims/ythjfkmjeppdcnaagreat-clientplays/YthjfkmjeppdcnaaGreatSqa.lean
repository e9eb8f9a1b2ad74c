/- The state of a walk, named; no condition. -/
import Derived.Test.YthjfkmjeppdcnaaGreatSqz
namespace Go.Proofs.YthjfkmjeppdcnaaGreat
set_option linter.unusedSimpArgs false
set_option linter.unusedVariables false
theorem atA {P : Program} {ops : Array Oper} {Q : Exit → Act → World → Prop} {md : Region.Mode} {S : World → Prop} {fuel : Nat} {listed : Array Bool} {a : Act} {w : World} (l : List Bool)
    (h : wpAnyH P md ops Q S fuel ⟨l⟩ a w) (e : listed.toList = l := by decide +kernel) : wpAnyH P md ops Q S fuel listed a w := by
  subst e; exact h
end Go.Proofs.YthjfkmjeppdcnaaGreat
