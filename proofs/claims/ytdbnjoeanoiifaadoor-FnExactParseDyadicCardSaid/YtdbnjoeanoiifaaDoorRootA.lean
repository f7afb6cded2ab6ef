/- Contracts of MulRootTwo and of its model. -/
import Derived.Test.YtdbnjoeanoiifaaDoorProd
namespace Go.Proofs.YtdbnjoeanoiifaaDoor
open Go.RowKit RM
set_option linter.unusedVariables false
set_option linter.unusedSimpArgs false

end Go.Proofs.YtdbnjoeanoiifaaDoor
