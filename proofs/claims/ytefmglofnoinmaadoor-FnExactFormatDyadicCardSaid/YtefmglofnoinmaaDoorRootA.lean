/- Contracts of MulRootTwo and of its model. -/
import Derived.Test.YtefmglofnoinmaaDoorProd
namespace Go.Proofs.YtefmglofnoinmaaDoor
open Go.RowKit RM
set_option linter.unusedVariables false
set_option linter.unusedSimpArgs false
end Go.Proofs.YtefmglofnoinmaaDoor
