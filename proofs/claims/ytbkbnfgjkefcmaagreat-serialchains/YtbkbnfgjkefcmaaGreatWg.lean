/- The document's Same at two submissions that are alike; conditions: their rows lie in memory. -/
import Derived.Test.YtbkbnfgjkefcmaaGreatWe
namespace Go.Proofs.YtbkbnfgjkefcmaaGreat
open Go.RowKit
set_option linter.unusedVariables false
attribute [local go_sem] run_bits run_frombits run_store_float eqF

end Go.Proofs.YtbkbnfgjkefcmaaGreat
