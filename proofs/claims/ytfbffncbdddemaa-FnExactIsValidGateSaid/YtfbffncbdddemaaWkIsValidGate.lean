/- The law on IsValidGate at all arguments. -/
import Derived.Test.YtfbffncbdddemaaLwIsValidGate
import Derived.Test.YtfbffncbdddemaaGa
namespace Go.Proofs.Ytfbffncbdddemaa
open Go.RowKit
set_option linter.unusedVariables false
set_option linter.unusedSimpArgs false
attribute [local irreducible] World.setCell

theorem fnExactIsValidGate_walk {i0 : Int} {x1 : GateV} {w : World}  :
    Calls Try.prog 9 #[.int .i64 i0, x1.v] w fun ee w' => ee = .returned (.bool true) ∧ Below w.heap.size w w' := by
  exact lwIsValidGate (r0 := vgB i0 x1) (fun w => svg rfl w) (fun w => ivg rfl w) 

end Go.Proofs.Ytfbffncbdddemaa
