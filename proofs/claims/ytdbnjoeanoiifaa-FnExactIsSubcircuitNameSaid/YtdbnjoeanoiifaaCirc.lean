/- Contracts of what the laws call on circuits. -/
import Derived.Test.YtdbnjoeanoiifaaFlatG
namespace Go.Proofs.Ytdbnjoeanoiifaa
open Go.RowKit
set_option linter.unusedVariables false
set_option linter.unusedSimpArgs false
attribute [local irreducible] World.setCell

abbrev circuitV (a0 : Int) (A1 : Option Addr) (n1 c1 : Nat) : Value := .agg #[.int .i64 a0, .slice (A1) n1 c1]
end Go.Proofs.Ytdbnjoeanoiifaa
