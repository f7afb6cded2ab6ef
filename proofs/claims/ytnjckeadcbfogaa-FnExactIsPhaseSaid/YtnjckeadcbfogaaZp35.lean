/- LwOp -/
import Derived.Test.YtnjckeadcbfogaaZp34
import Derived.Test.YtnjckeadcbfogaaZp21
import Derived.Test.YtnjckeadcbfogaaZp18
import Derived.Test.YtnjckeadcbfogaaZp19
import Derived.Test.YtnjckeadcbfogaaZp14
import Derived.Test.YtnjckeadcbfogaaZp4
namespace Go.Proofs.Ytnjckeadcbfogaa
open Go.RowKit RM
set_option linter.unusedVariables false
set_option linter.unusedSimpArgs false
attribute [local irreducible] World.setCell

open GM
theorem apl_len {n D C : Nat} : ∀ (gs : List C4.GateV) (xs ys : List D5), apl n D C gs xs = some ys → xs.length = D * C → ys.length = D * C := by
  intro gs
  induction gs with
  | nil => intro xs ys h hx; obtain rfl := Option.some.inj h; exact hx
  | cons g gs ih =>
    intro xs ys h hx
    have h2 : (if stB n D C g xs then none else apl n D C gs (stF n D C g xs)) = some ys := h
    split at h2
    · cases h2
    · exact ih _ _ h2 stF_len

end Go.Proofs.Ytnjckeadcbfogaa
