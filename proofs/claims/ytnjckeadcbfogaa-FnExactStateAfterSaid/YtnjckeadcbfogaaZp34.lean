/- Of -/
import Derived.Test.YtnjckeadcbfogaaZp33
namespace Go.Proofs.Ytnjckeadcbfogaa
open Go.RowKit RM
set_option linter.unusedVariables false
set_option linter.unusedSimpArgs false
attribute [local irreducible] World.setCell

open GM
end Go.Proofs.Ytnjckeadcbfogaa
