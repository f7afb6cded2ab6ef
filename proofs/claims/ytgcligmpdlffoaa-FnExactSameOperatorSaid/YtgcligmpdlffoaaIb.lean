/- IsPhase: the model. -/
import Derived.Test.YtgcligmpdlffoaaIa
namespace Go.Proofs.Ytgcligmpdlffoaa
open Go.RowKit RM
set_option linter.unusedVariables false
set_option linter.unusedSimpArgs false
attribute [local irreducible] World.setCell

open GM
end Go.Proofs.Ytgcligmpdlffoaa
