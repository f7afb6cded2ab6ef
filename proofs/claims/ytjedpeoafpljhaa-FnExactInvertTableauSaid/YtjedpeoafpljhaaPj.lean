/- MulPauli. -/
import Derived.Test.YtjedpeoafpljhaaPi
import Derived.Test.YtjedpeoafpljhaaPs
namespace Go.Proofs.Ytjedpeoafpljhaa.C4
open Go.RowKit
set_option linter.unusedVariables false
set_option linter.unusedSimpArgs false
attribute [local irreducible] World.setCell

theorem pB_and {n : Int} {x y : PauliV} (h : (pB n x && pB n y) = false) : pB n x = false ∨ (pB n x = true ∧ pB n y = false) := by
  cases hx : pB n x
  · exact Or.inl rfl
  · rw [hx] at h; exact Or.inr ⟨rfl, h⟩
end Go.Proofs.Ytjedpeoafpljhaa.C4
