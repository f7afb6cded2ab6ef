/- The law on IsClifford at all arguments. -/
import Derived.Test.YtfbffncbdddemaaLwIsClifford
import Derived.Test.YtfbffncbdddemaaBg
import Derived.Test.YtfbffncbdddemaaGd
namespace Go.Proofs.Ytfbffncbdddemaa
open Go.RowKit
set_option linter.unusedVariables false
set_option linter.unusedSimpArgs false
attribute [local irreducible] World.setCell

theorem fnExactIsClifford_walk {a0p0 : Int} {A1p0 : Option Addr} {n1p0 c1p0 : Nat} {xs1p0 : List GateV} {w : World} (hA1p0 : Rd gateE w A1p0 xs1p0) (hn1p0 : xs1p0.length = n1p0) (hm1p0 : n1p0 ≤ maxLen) :
    Calls Try.prog 17 #[(circuitV a0p0 A1p0 n1p0 c1p0)] w fun ee w' => ee = .returned (.bool true) ∧ Below w.heap.size w w' := by
  by_cases hb1p0 : (n1p0 : Int) ≤ 1048576
  · skip
    have hs : ∀ (g : Nat) (w : World), Rd gateE w (some ⟨g, 0, none⟩) xs1p0 → Calls Try.prog 68 #[circuitV a0p0 (some ⟨g, 0, none⟩) n1p0 n1p0] w fun ee w' => ee = .returned (.tuple #[.bool (okC a0p0 n1p0 xs1p0 && (xs1p0.countP isCl == xs1p0.length)), .bool (okC a0p0 n1p0 xs1p0)]) ∧ Below w.heap.size w w' := fun g w k => by
      cases h : okC a0p0 n1p0 xs1p0
      · exact sIsClifford_f k hn1p0 hm1p0 h
      · exact sIsClifford_t k hn1p0 hm1p0 h (by rw [cl_iff]; rfl) (okC_iff.1 h).2.2.1
    have hi : ∀ (g : Nat) (w : World), Rd gateE w (some ⟨g, 0, none⟩) xs1p0 → Calls Try.prog 69 #[circuitV a0p0 (some ⟨g, 0, none⟩) n1p0 n1p0] w fun ee w' => ee = .returned (.tuple #[.bool (okC a0p0 n1p0 xs1p0 && (xs1p0.countP isCl == xs1p0.length)), .bool (okC a0p0 n1p0 xs1p0)]) ∧ Below w.heap.size w w' := fun g w k => by
      cases h : okC a0p0 n1p0 xs1p0
      · exact iIsClifford_f k hn1p0 hm1p0 h
      · exact iIsClifford_t k hn1p0 hm1p0 h rfl
    exact lwIsClifford (r0 := okC a0p0 n1p0 xs1p0 && (xs1p0.countP isCl == xs1p0.length)) (r1 := okC a0p0 n1p0 xs1p0) (hs) (hi) hA1p0 hn1p0 hb1p0
  · exact bigIsClifford0  (by omega) hm1p0

end Go.Proofs.Ytfbffncbdddemaa
