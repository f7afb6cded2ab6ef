/- The law on CountTwo at all arguments. -/
import Derived.Test.YtfbffncbdddemaaLwCountTwo
import Derived.Test.YtfbffncbdddemaaBg
import Derived.Test.YtfbffncbdddemaaGc
namespace Go.Proofs.Ytfbffncbdddemaa
open Go.RowKit
set_option linter.unusedVariables false
set_option linter.unusedSimpArgs false
attribute [local irreducible] World.setCell

theorem fnExactCountTwo_walk {a0p0 : Int} {A1p0 : Option Addr} {n1p0 c1p0 : Nat} {xs1p0 : List GateV} {w : World} (hA1p0 : Rd gateE w A1p0 xs1p0) (hn1p0 : xs1p0.length = n1p0) (hm1p0 : n1p0 ≤ maxLen) :
    Calls Try.prog 16 #[(circuitV a0p0 A1p0 n1p0 c1p0)] w fun ee w' => ee = .returned (.bool true) ∧ Below w.heap.size w w' := by
  by_cases hb1p0 : (n1p0 : Int) ≤ 1048576
  · skip
    have hs : ∀ (g : Nat) (w : World), Rd gateE w (some ⟨g, 0, none⟩) xs1p0 → Calls Try.prog 67 #[circuitV a0p0 (some ⟨g, 0, none⟩) n1p0 n1p0] w fun ee w' => ee = .returned (.tuple #[.int .i64 (if okC a0p0 n1p0 xs1p0 then (xs1p0.countP isTwo : Nat) else 0), .bool (okC a0p0 n1p0 xs1p0)]) ∧ Below w.heap.size w w' := fun g w k => by
      cases h : okC a0p0 n1p0 xs1p0
      · exact sCountTwo_f k hn1p0 hm1p0 h
      · exact sCountTwo_t k hn1p0 hm1p0 h
    have hi : ∀ (g : Nat) (w : World), Rd gateE w (some ⟨g, 0, none⟩) xs1p0 → Calls Try.prog 36 #[circuitV a0p0 (some ⟨g, 0, none⟩) n1p0 n1p0] w fun ee w' => ee = .returned (.tuple #[.int .i64 (if okC a0p0 n1p0 xs1p0 then (xs1p0.countP isTwo : Nat) else 0), .bool (okC a0p0 n1p0 xs1p0)]) ∧ Below w.heap.size w w' := fun g w k => by
      cases h : okC a0p0 n1p0 xs1p0
      · exact iCountTwo_f k hn1p0 hm1p0 h
      · exact iCountTwo_t k hn1p0 hm1p0 h
    exact lwCountTwo (r0 := if okC a0p0 n1p0 xs1p0 then (xs1p0.countP isTwo : Nat) else 0) (r1 := okC a0p0 n1p0 xs1p0) (hs) (hi) hA1p0 hn1p0 hb1p0
  · exact bigCountTwo0  (by omega) hm1p0

end Go.Proofs.Ytfbffncbdddemaa
