/- The law on Inverse at all arguments. -/
import Derived.Test.YtfbffncbdddemaaLwInverse
import Derived.Test.YtfbffncbdddemaaBg
import Derived.Test.YtfbffncbdddemaaGm
namespace Go.Proofs.Ytfbffncbdddemaa
open Go.RowKit
set_option linter.unusedVariables false
set_option linter.unusedSimpArgs false
attribute [local irreducible] World.setCell

theorem fnExactInverse_walk {a0p0 : Int} {A1p0 : Option Addr} {n1p0 c1p0 : Nat} {xs1p0 : List GateV} {w : World} (hA1p0 : Rd gateE w A1p0 xs1p0) (hn1p0 : xs1p0.length = n1p0) (hm1p0 : n1p0 ≤ maxLen) :
    Calls Try.prog 13 #[(circuitV a0p0 A1p0 n1p0 c1p0)] w fun ee w' => ee = .returned (.bool true) ∧ Below w.heap.size w w' := by
  by_cases hb1p0 : (n1p0 : Int) ≤ 1048576
  · skip
    cases h : okC a0p0 n1p0 xs1p0
    · exact lwInverse (a0q0 := 0) (k1q0 := 0) (zs1q0 := []) (r1 := false) (fun g w k => (sInverse_f k hn1p0 hm1p0 h).mono fun ee w' h => ⟨none, 0, h.1, ⟨Rd.nil _ _, fun a ha => by cases ha⟩, h.2⟩) (fun g w k => (iInverse_f k hn1p0 hm1p0 h).mono fun ee w' h => ⟨none, 0, h.1, Ow.none, h.2⟩) rfl (by omega) hA1p0 hn1p0 hb1p0
    · have h4 := (okC_iff.1 h).2.2.1
      by_cases hi : (invL xs1p0).length ≤ 400
      · exact lwInverse (a0q0 := a0p0) (zs1q0 := invL xs1p0) (r1 := true) (fun g w k => (sInverse_t k hn1p0 hm1p0 h h4 hi).mono fun ee w' ⟨B, K, cq, h1, h2, h3, h5, h6⟩ => ⟨B, cq, by rw [h1, h2], ⟨h3, h5⟩, h6⟩) (fun g w k => iInverse_t k hn1p0 hm1p0 h h4 hi) rfl (by omega) hA1p0 hn1p0 hb1p0
      · have hi : 400 < (invL xs1p0).length := by omega
        exact lwInverse (a0q0 := 0) (k1q0 := 0) (zs1q0 := []) (r1 := false) (fun g w k => (sInverse_o k hn1p0 hm1p0 h h4 hi).mono fun ee w' h => ⟨none, 0, h.1, ⟨Rd.nil _ _, fun a ha => by cases ha⟩, h.2⟩) (fun g w k => (iInverse_o k hn1p0 hm1p0 h h4 hi).mono fun ee w' h => ⟨none, 0, h.1, Ow.none, h.2⟩) rfl (by omega) hA1p0 hn1p0 hb1p0
  · exact bigInverse0  (by omega) hm1p0

end Go.Proofs.Ytfbffncbdddemaa
