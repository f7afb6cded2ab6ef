/- Contracts of EqualMatrices, of what it calls, and of its model. -/
import Derived.Test.YtnjckeadcbfogaaZp18
import Derived.Test.YtnjckeadcbfogaaStEq
import Derived.BigQuiet
import Derived.Deep.QuietTactic
import Derived.Deep.LoopGhost
namespace Go.Proofs.Ytnjckeadcbfogaa
open Go.RowKit RM
set_option linter.unusedVariables false
set_option linter.unusedSimpArgs false
attribute [local irreducible] World.setCell

/-- equality of numbers, of lists of them -/
def D5.beq (x y : D5) : Bool := x.a == y.a && x.b == y.b && x.c == y.c && x.d == y.d && x.e == y.e
theorem beq_iff5 {x y : D5} : x.beq y = true ↔ x = y := by
  obtain ⟨a, b, c, d, e⟩ := x
  obtain ⟨p, q, r, s, f⟩ := y
  simp [D5.beq, and_assoc]
end Go.Proofs.Ytnjckeadcbfogaa
