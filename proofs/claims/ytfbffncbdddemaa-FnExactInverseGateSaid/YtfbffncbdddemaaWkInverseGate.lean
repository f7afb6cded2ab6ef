/- The law on InverseGate at all arguments. -/
import Derived.Test.YtfbffncbdddemaaLwInverseGate
import Derived.Test.YtfbffncbdddemaaGi
namespace Go.Proofs.Ytfbffncbdddemaa
open Go.RowKit
set_option linter.unusedVariables false
set_option linter.unusedSimpArgs false
attribute [local irreducible] World.setCell

theorem fnExactInverseGate_walk {x0 : GateV} {w : World}  :
    Calls Try.prog 12 #[x0.v] w fun ee w' => ee = .returned (.bool true) ∧ Below w.heap.size w w' := by
  have hs : ∀ (w : World), Calls Try.prog 60 #[x0.v] w fun ee w' => ee = .returned (.tuple #[(if gB 5 x0 then bkG x0 else GateV.z).v, .int .i64 (if gB 5 x0 then (bkN x0 : Nat) else 0), .bool (gB 5 x0)]) ∧ Below w.heap.size w w' := fun w => by
    cases h : gB 5 x0
    · exact sig_f h w
    · exact sig_t rfl rfl h w
  have hi : ∀ (w : World), Calls Try.prog 61 #[x0.v] w fun ee w' => ee = .returned (.tuple #[(if gB 5 x0 then bkG x0 else GateV.z).v, .int .i64 (if gB 5 x0 then (bkN x0 : Nat) else 0), .bool (gB 5 x0)]) ∧ Below w.heap.size w w' := fun w => by
    cases h : gB 5 x0
    · exact iig_f h w
    · exact iig_t h w
  exact lwInverseGate (y0 := if gB 5 x0 then bkG x0 else GateV.z) (r1 := if gB 5 x0 then (bkN x0 : Nat) else 0) (r2 := gB 5 x0) (hs) (hi) 

end Go.Proofs.Ytfbffncbdddemaa
