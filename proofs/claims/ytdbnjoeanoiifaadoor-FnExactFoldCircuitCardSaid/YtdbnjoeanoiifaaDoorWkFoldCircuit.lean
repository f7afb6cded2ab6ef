/- The law on FoldCircuit at all arguments. -/
import Derived.Test.YtdbnjoeanoiifaaDoorLwFoldCircuit
import Derived.Test.YtdbnjoeanoiifaaDoorFf3
namespace Go.Proofs.YtdbnjoeanoiifaaDoor
open Go.RowKit
set_option linter.unusedVariables false
set_option linter.unusedSimpArgs false
attribute [local irreducible] World.setCell

set_option maxRecDepth 100000 in
set_option maxHeartbeats 4000000 in
theorem bigFoldCircuit0 {a0p0 : Int} {A1p0 : Option Addr} {n1p0 c1p0 : Nat} {w : World} (hb : 1048576 < (n1p0 : Int)) (hm : n1p0 ≤ maxLen) :
    Calls Tryd.prog 7 #[(circuitV a0p0 A1p0 n1p0 c1p0)] w fun ee w' => ee = .returned (.bool true) ∧ Below w.heap.size w w' := by
  have hu : n1p0 ≤ 9223372036854775807 := by unfold maxLen at hm; omega
  have hb0 : 1048576 < (n1p0 : Int) := by omega
  have hb1 : 1048576 ≤ (1048576 : Int) := by omega
  have hb2 : (0 : Int) ≤ 1048576 := by omega
  go_enter Tryd.func7, Tryd.ntmps7
  go_wp2_with (fail)
  refine (szCircuit_f hb0 hb1 hb2 hm).mono ?_
  rintro ee v ⟨rfl, hv⟩
  go_wp2_with (fail)
  go_ret
  refine ⟨rfl, ?_⟩
  (repeat' (first | (with_reducible exact Below.refl _ _) | (with_reducible assumption) | (with_reducible refine Below.alloc ?_ ?_ _) | (with_reducible refine Below.drew ?_) | (with_reducible refine bdN ?_ _) | (with_reducible refine Below.setCell ?_ ?_ _) | (with_reducible refine chn ?_ (by assumption) ?_) | omega | (simp; done) | (simp; omega)))

theorem fnExactFoldCircuit_walk {a0p0 : Int} {A1p0 : Option Addr} {n1p0 c1p0 : Nat} {xs1p0 : List GateV} {w : World} (hG : Nms w) (hA1p0 : Rd gateE w A1p0 xs1p0) (hn1p0 : xs1p0.length = n1p0) (hm1p0 : n1p0 ≤ maxLen) :
    Calls Tryd.prog 7 #[(circuitV a0p0 A1p0 n1p0 c1p0)] w fun ee w' => ee = .returned (.bool true) ∧ Below w.heap.size w w' := by
  by_cases hb1p0 : (n1p0 : Int) ≤ 1048576
  · obtain ⟨T, ok, hs, hi⟩ := fo_both (a0 := a0p0) (xs := xs1p0) hG hn1p0 hm1p0
    exact lwFoldCircuit (r0 := T) (r1 := ok) hs hi hA1p0 hn1p0 hb1p0
  · exact bigFoldCircuit0 (by omega) hm1p0
end Go.Proofs.YtdbnjoeanoiifaaDoor
