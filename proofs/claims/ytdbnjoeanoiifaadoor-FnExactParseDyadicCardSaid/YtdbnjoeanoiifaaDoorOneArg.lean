/- Contracts of the functions of one number: Conjugate, Bullet, MulRootTwo, and of their models. -/
import Derived.Test.YtdbnjoeanoiifaaDoorValid
namespace Go.Proofs.YtdbnjoeanoiifaaDoor
open Go.RowKit RM
set_option linter.unusedVariables false
set_option linter.unusedSimpArgs false
/-- a number of the ring and whether there is one -/
abbrev rt (a b c d : Int) (ok : Bool) : Value := .tuple #[rg a b c d, .bool ok]

end Go.Proofs.YtdbnjoeanoiifaaDoor
