/- Contracts of NormSquare and its model. -/
import Derived.Test.YtnjckeadcbfogaaZp13
import Derived.Test.YtnjckeadcbfogaaZp8
import Derived.Deep.LoopGhost
import Derived.Deep.RegionHeld3
import Derived.Deep.MidRow
import Derived.Deep.DeepCutAuto
namespace Go.Proofs.Ytnjckeadcbfogaa
open Go.RowKit RM
set_option linter.unusedVariables false
set_option linter.unusedSimpArgs false
attribute [local irreducible] World.setCell

end Go.Proofs.Ytnjckeadcbfogaa
