/- The law on IsValidCircuit at all arguments. -/
import Derived.Test.YtfbffncbdddemaaLwIsValidCircuit
import Derived.Test.YtfbffncbdddemaaBg
import Derived.Test.YtfbffncbdddemaaGv
namespace Go.Proofs.Ytfbffncbdddemaa
open Go.RowKit
set_option linter.unusedVariables false
set_option linter.unusedSimpArgs false
attribute [local irreducible] World.setCell

theorem fnExactIsValidCircuit_walk {a0p0 : Int} {A1p0 : Option Addr} {n1p0 c1p0 : Nat} {xs1p0 : List GateV} {w : World} (hA1p0 : Rd gateE w A1p0 xs1p0) (hn1p0 : xs1p0.length = n1p0) (hm1p0 : n1p0 ≤ maxLen) :
    Calls Try.prog 10 #[(circuitV a0p0 A1p0 n1p0 c1p0)] w fun ee w' => ee = .returned (.bool true) ∧ Below w.heap.size w w' := by
  by_cases hb1p0 : (n1p0 : Int) ≤ 1048576
  · skip
    exact lwIsValidCircuit (r0 := okC a0p0 n1p0 xs1p0) (fun g w k => svc rfl k hn1p0 hm1p0) (fun g w k => vci rfl k hn1p0 hm1p0) hA1p0 hn1p0 hb1p0
  · exact bigIsValidCircuit0  (by omega) hm1p0

end Go.Proofs.Ytfbffncbdddemaa
