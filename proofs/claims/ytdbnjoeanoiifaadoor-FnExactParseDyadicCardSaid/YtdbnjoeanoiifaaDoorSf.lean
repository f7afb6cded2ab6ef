/- The contract of the model's FormatRing. -/
import Derived.Test.YtdbnjoeanoiifaaDoorInt
namespace Go.Proofs.YtdbnjoeanoiifaaDoor
open Go.RowKit RM
set_option linter.unusedVariables false
set_option linter.unusedSimpArgs false
attribute [local irreducible] World.setCell


end Go.Proofs.YtdbnjoeanoiifaaDoor
