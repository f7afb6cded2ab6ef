/- The law on PhaseOf holds at every number. -/
import Derived.Test.YtefmglofnoinmaaPhase
import Derived.Test.YtefmglofnoinmaaLwD
import Derived.Deep.LoopGhost
namespace Go.Proofs.Ytefmglofnoinmaa
open Go.RowKit RM
set_option linter.unusedVariables false
set_option linter.unusedSimpArgs false
attribute [local irreducible] World.setCell
/-- within int -/
abbrev I6h (x : Int) : Prop := -9223372036854775808 ≤ x ∧ x ≤ 9223372036854775807

theorem fnExactPhaseOf_walk (a b c d e : Int) (ha : I6h a) (hb : I6h b) (hc : I6h c) (hd : I6h d) (he : I6h e) (w : World) :
    Calls Try.prog 13 #[dy a b c d e] w fun ee w' => ee = .returned (.bool true) ∧ Below w.heap.size w w' := by
  rcases hr : phs a b c d e 8 with ⟨u, ok⟩
  exact lwPhaseOf _ _ _ _ _ _ _ (fun w => ph_s _ _ _ _ _ _ _ w hr) (fun w => ph_i _ _ _ _ _ _ _ w hr) w
end Go.Proofs.Ytefmglofnoinmaa
