/- The law on EqualCircuits at all arguments. -/
import Derived.Test.YtfbffncbdddemaaLwEqualCircuits
import Derived.Test.YtfbffncbdddemaaBg
import Derived.Test.YtfbffncbdddemaaGe
namespace Go.Proofs.Ytfbffncbdddemaa
open Go.RowKit
set_option linter.unusedVariables false
set_option linter.unusedSimpArgs false
attribute [local irreducible] World.setCell

theorem fnExactEqualCircuits_walk {a0p0 : Int} {A1p0 : Option Addr} {n1p0 c1p0 : Nat} {xs1p0 : List GateV} {a0p1 : Int} {A1p1 : Option Addr} {n1p1 c1p1 : Nat} {xs1p1 : List GateV} {w : World} (hA1p0 : Rd gateE w A1p0 xs1p0) (hn1p0 : xs1p0.length = n1p0) (hm1p0 : n1p0 ≤ maxLen) (hA1p1 : Rd gateE w A1p1 xs1p1) (hn1p1 : xs1p1.length = n1p1) (hm1p1 : n1p1 ≤ maxLen) :
    Calls Try.prog 11 #[(circuitV a0p0 A1p0 n1p0 c1p0), (circuitV a0p1 A1p1 n1p1 c1p1)] w fun ee w' => ee = .returned (.bool true) ∧ Below w.heap.size w w' := by
  by_cases hb1p0 : (n1p0 : Int) ≤ 1048576
  · skip
    by_cases hb1p1 : (n1p1 : Int) ≤ 1048576 - (n1p0 : Int)
    · skip
      obtain ⟨r, hr⟩ : ∃ r : Bool, r = true ↔ (a0p0 = a0p1 ∧ xs1p0 = xs1p1) := boolOf
      exact lwEqualCircuits (r0 := r) (fun g h w k l => eqc_s hr k l hn1p0 hn1p1 (by omega) (by omega)) (fun g h w k l => eqc_i hr k l hn1p0 hn1p1 (by omega) (by omega)) hA1p0 hn1p0 hb1p0 hA1p1 hn1p1 hb1p1
    · exact bigEqualCircuits1 hb1p0 (by omega) hm1p1
  · exact bigEqualCircuits0  (by omega) hm1p0

end Go.Proofs.Ytfbffncbdddemaa
