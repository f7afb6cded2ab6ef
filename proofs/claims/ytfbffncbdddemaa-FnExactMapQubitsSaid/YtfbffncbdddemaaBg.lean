/- Sizes past the laws' own bound. -/
import Derived.Test.YtfbffncbdddemaaCirc
import Derived.Test.YtfbffncbdddemaaFlatI
namespace Go.Proofs.Ytfbffncbdddemaa
open Go.RowKit
set_option linter.unusedVariables false
set_option linter.unusedSimpArgs false
attribute [local irreducible] World.setCell

set_option maxRecDepth 100000 in
set_option maxHeartbeats 4000000 in
theorem bigIsValidCircuit0 {a0p0 : Int} {A1p0 : Option Addr} {n1p0 c1p0 : Nat} {w : World} (hb : 1048576 < (n1p0 : Int)) (hm : n1p0 ≤ maxLen) :
    Calls Try.prog 10 #[(circuitV a0p0 A1p0 n1p0 c1p0)] w fun ee w' => ee = .returned (.bool true) ∧ Below w.heap.size w w' := by
  have hu : n1p0 ≤ 9223372036854775807 := by unfold maxLen at hm; omega
  have hb0 : 1048576 < (n1p0 : Int) := by omega
  have hb1 : 1048576 ≤ (1048576 : Int) := by omega
  have hb2 : (0 : Int) ≤ 1048576 := by omega
  go_enter Try.func10, Try.ntmps10
  go_wp2_with (fail)
  refine (szCircuit_f hb0 hb1 hb2 hm).mono ?_
  rintro ee v ⟨rfl, hv⟩
  go_wp2_with (fail)
  go_ret
  refine ⟨rfl, ?_⟩
  (repeat' (first | (with_reducible exact Below.refl _ _) | (with_reducible assumption) | (with_reducible refine Below.alloc ?_ ?_ _) | (with_reducible refine Below.drew ?_) | (with_reducible refine bdN ?_ _) | (with_reducible refine Below.setCell ?_ ?_ _) | (with_reducible refine chn ?_ (by assumption) ?_) | omega | (simp; done) | (simp; omega)))

set_option maxRecDepth 100000 in
set_option maxHeartbeats 4000000 in
theorem bigEqualCircuits0 {a0p0 : Int} {A1p0 : Option Addr} {n1p0 c1p0 : Nat} {a0p1 : Int} {A1p1 : Option Addr} {n1p1 c1p1 : Nat} {w : World} (hb : 1048576 < (n1p0 : Int)) (hm : n1p0 ≤ maxLen) :
    Calls Try.prog 11 #[(circuitV a0p0 A1p0 n1p0 c1p0), (circuitV a0p1 A1p1 n1p1 c1p1)] w fun ee w' => ee = .returned (.bool true) ∧ Below w.heap.size w w' := by
  have hu : n1p0 ≤ 9223372036854775807 := by unfold maxLen at hm; omega
  have hb0 : 1048576 < (n1p0 : Int) := by omega
  have hb1 : 1048576 ≤ (1048576 : Int) := by omega
  have hb2 : (0 : Int) ≤ 1048576 := by omega
  go_enter Try.func11, Try.ntmps11
  go_wp2_with (fail)
  refine (szCircuit_f hb0 hb1 hb2 hm).mono ?_
  rintro ee v ⟨rfl, hv⟩
  go_wp2_with (fail)
  go_ret
  refine ⟨rfl, ?_⟩
  (repeat' (first | (with_reducible exact Below.refl _ _) | (with_reducible assumption) | (with_reducible refine Below.alloc ?_ ?_ _) | (with_reducible refine Below.drew ?_) | (with_reducible refine bdN ?_ _) | (with_reducible refine Below.setCell ?_ ?_ _) | (with_reducible refine chn ?_ (by assumption) ?_) | omega | (simp; done) | (simp; omega)))

set_option maxRecDepth 100000 in
set_option maxHeartbeats 4000000 in
theorem bigEqualCircuits1 {a0p0 : Int} {A1p0 : Option Addr} {n1p0 c1p0 : Nat} {a0p1 : Int} {A1p1 : Option Addr} {n1p1 c1p1 : Nat} {w : World} (h0 : (n1p0 : Int) ≤ 1048576) (hb : 1048576 - (n1p0 : Int) < (n1p1 : Int)) (hm : n1p1 ≤ maxLen) :
    Calls Try.prog 11 #[(circuitV a0p0 A1p0 n1p0 c1p0), (circuitV a0p1 A1p1 n1p1 c1p1)] w fun ee w' => ee = .returned (.bool true) ∧ Below w.heap.size w w' := by
  have hu : n1p1 ≤ 9223372036854775807 := by unfold maxLen at hm; omega
  have m0 : ¬ (1048576 - (n1p0 : Int) < 0) := by omega
  have o0 : 0 ≤ 1048576 - (n1p0 : Int) := by omega
  have s0 : (n1p0 : Int) ≤ 1048576 := by omega
  have t0 : 1048576 ≤ (1048576 : Int) := by omega
  have hb0 : 1048576 - (n1p0 : Int) < (n1p1 : Int) := by omega
  have hb1 : 1048576 - (n1p0 : Int) ≤ (1048576 : Int) := by omega
  have hb2 : (0 : Int) ≤ 1048576 - (n1p0 : Int) := by omega
  go_enter Try.func11, Try.ntmps11
  go_wp2_with (fail)
  refine (szCircuit_t s0 t0).mono ?_
  rintro ee w1 ⟨rfl, hb_1⟩
  obtain ⟨hc1, hf1, _⟩ := bcl hb_1
  have hz1 := hb_1.size
  (try simp at hz1)
  (try have hx10 : w.heap.size < w1.heap.size := (by omega))
  (try have hx11 : w.heap.size + 1 < w1.heap.size := (by omega))
  (try have hx12 : w.heap.size + 1 + 1 < w1.heap.size := (by omega))
  (try have hx13 : w.heap.size + 1 + 1 + 1 < w1.heap.size := (by omega))
  (try have hx14 : w.heap.size + 1 + 1 + 1 + 1 < w1.heap.size := (by omega))
  go_wp2_with (fail)
  refine (szCircuit_f hb0 hb1 hb2 hm).mono ?_
  rintro ee v ⟨rfl, hv⟩
  go_wp2_with (fail)
  go_ret
  refine ⟨rfl, ?_⟩
  (repeat' (first | (with_reducible exact Below.refl _ _) | (with_reducible assumption) | (with_reducible refine Below.alloc ?_ ?_ _) | (with_reducible refine Below.drew ?_) | (with_reducible refine bdN ?_ _) | (with_reducible refine Below.setCell ?_ ?_ _) | (with_reducible refine chn ?_ (by assumption) ?_) | omega | (simp; done) | (simp; omega)))

set_option maxRecDepth 100000 in
set_option maxHeartbeats 4000000 in
theorem bigCountT0 {a0p0 : Int} {A1p0 : Option Addr} {n1p0 c1p0 : Nat} {w : World} (hb : 1048576 < (n1p0 : Int)) (hm : n1p0 ≤ maxLen) :
    Calls Try.prog 15 #[(circuitV a0p0 A1p0 n1p0 c1p0)] w fun ee w' => ee = .returned (.bool true) ∧ Below w.heap.size w w' := by
  have hu : n1p0 ≤ 9223372036854775807 := by unfold maxLen at hm; omega
  have hb0 : 1048576 < (n1p0 : Int) := by omega
  have hb1 : 1048576 ≤ (1048576 : Int) := by omega
  have hb2 : (0 : Int) ≤ 1048576 := by omega
  go_enter Try.func15, Try.ntmps15
  go_wp2_with (fail)
  refine (szCircuit_f hb0 hb1 hb2 hm).mono ?_
  rintro ee v ⟨rfl, hv⟩
  go_wp2_with (fail)
  go_ret
  refine ⟨rfl, ?_⟩
  (repeat' (first | (with_reducible exact Below.refl _ _) | (with_reducible assumption) | (with_reducible refine Below.alloc ?_ ?_ _) | (with_reducible refine Below.drew ?_) | (with_reducible refine bdN ?_ _) | (with_reducible refine Below.setCell ?_ ?_ _) | (with_reducible refine chn ?_ (by assumption) ?_) | omega | (simp; done) | (simp; omega)))

set_option maxRecDepth 100000 in
set_option maxHeartbeats 4000000 in
theorem bigCountTwo0 {a0p0 : Int} {A1p0 : Option Addr} {n1p0 c1p0 : Nat} {w : World} (hb : 1048576 < (n1p0 : Int)) (hm : n1p0 ≤ maxLen) :
    Calls Try.prog 16 #[(circuitV a0p0 A1p0 n1p0 c1p0)] w fun ee w' => ee = .returned (.bool true) ∧ Below w.heap.size w w' := by
  have hu : n1p0 ≤ 9223372036854775807 := by unfold maxLen at hm; omega
  have hb0 : 1048576 < (n1p0 : Int) := by omega
  have hb1 : 1048576 ≤ (1048576 : Int) := by omega
  have hb2 : (0 : Int) ≤ 1048576 := by omega
  go_enter Try.func16, Try.ntmps16
  go_wp2_with (fail)
  refine (szCircuit_f hb0 hb1 hb2 hm).mono ?_
  rintro ee v ⟨rfl, hv⟩
  go_wp2_with (fail)
  go_ret
  refine ⟨rfl, ?_⟩
  (repeat' (first | (with_reducible exact Below.refl _ _) | (with_reducible assumption) | (with_reducible refine Below.alloc ?_ ?_ _) | (with_reducible refine Below.drew ?_) | (with_reducible refine bdN ?_ _) | (with_reducible refine Below.setCell ?_ ?_ _) | (with_reducible refine chn ?_ (by assumption) ?_) | omega | (simp; done) | (simp; omega)))

set_option maxRecDepth 100000 in
set_option maxHeartbeats 4000000 in
theorem bigIsClifford0 {a0p0 : Int} {A1p0 : Option Addr} {n1p0 c1p0 : Nat} {w : World} (hb : 1048576 < (n1p0 : Int)) (hm : n1p0 ≤ maxLen) :
    Calls Try.prog 17 #[(circuitV a0p0 A1p0 n1p0 c1p0)] w fun ee w' => ee = .returned (.bool true) ∧ Below w.heap.size w w' := by
  have hu : n1p0 ≤ 9223372036854775807 := by unfold maxLen at hm; omega
  have hb0 : 1048576 < (n1p0 : Int) := by omega
  have hb1 : 1048576 ≤ (1048576 : Int) := by omega
  have hb2 : (0 : Int) ≤ 1048576 := by omega
  go_enter Try.func17, Try.ntmps17
  go_wp2_with (fail)
  refine (szCircuit_f hb0 hb1 hb2 hm).mono ?_
  rintro ee v ⟨rfl, hv⟩
  go_wp2_with (fail)
  go_ret
  refine ⟨rfl, ?_⟩
  (repeat' (first | (with_reducible exact Below.refl _ _) | (with_reducible assumption) | (with_reducible refine Below.alloc ?_ ?_ _) | (with_reducible refine Below.drew ?_) | (with_reducible refine bdN ?_ _) | (with_reducible refine Below.setCell ?_ ?_ _) | (with_reducible refine chn ?_ (by assumption) ?_) | omega | (simp; done) | (simp; omega)))

set_option maxRecDepth 100000 in
set_option maxHeartbeats 4000000 in
theorem bigInverse0 {a0p0 : Int} {A1p0 : Option Addr} {n1p0 c1p0 : Nat} {w : World} (hb : 1048576 < (n1p0 : Int)) (hm : n1p0 ≤ maxLen) :
    Calls Try.prog 13 #[(circuitV a0p0 A1p0 n1p0 c1p0)] w fun ee w' => ee = .returned (.bool true) ∧ Below w.heap.size w w' := by
  have hu : n1p0 ≤ 9223372036854775807 := by unfold maxLen at hm; omega
  have hb0 : 1048576 < (n1p0 : Int) := by omega
  have hb1 : 1048576 ≤ (1048576 : Int) := by omega
  have hb2 : (0 : Int) ≤ 1048576 := by omega
  go_enter Try.func13, Try.ntmps13
  go_wp2_with (fail)
  refine (szCircuit_f hb0 hb1 hb2 hm).mono ?_
  rintro ee v ⟨rfl, hv⟩
  go_wp2_with (fail)
  go_ret
  refine ⟨rfl, ?_⟩
  (repeat' (first | (with_reducible exact Below.refl _ _) | (with_reducible assumption) | (with_reducible refine Below.alloc ?_ ?_ _) | (with_reducible refine Below.drew ?_) | (with_reducible refine bdN ?_ _) | (with_reducible refine Below.setCell ?_ ?_ _) | (with_reducible refine chn ?_ (by assumption) ?_) | omega | (simp; done) | (simp; omega)))

set_option maxRecDepth 100000 in
set_option maxHeartbeats 4000000 in
theorem bigConcat0 {a0p0 : Int} {A1p0 : Option Addr} {n1p0 c1p0 : Nat} {a0p1 : Int} {A1p1 : Option Addr} {n1p1 c1p1 : Nat} {w : World} (hb : 1048576 < (n1p0 : Int)) (hm : n1p0 ≤ maxLen) :
    Calls Try.prog 14 #[(circuitV a0p0 A1p0 n1p0 c1p0), (circuitV a0p1 A1p1 n1p1 c1p1)] w fun ee w' => ee = .returned (.bool true) ∧ Below w.heap.size w w' := by
  have hu : n1p0 ≤ 9223372036854775807 := by unfold maxLen at hm; omega
  have hb0 : 1048576 < (n1p0 : Int) := by omega
  have hb1 : 1048576 ≤ (1048576 : Int) := by omega
  have hb2 : (0 : Int) ≤ 1048576 := by omega
  go_enter Try.func14, Try.ntmps14
  go_wp2_with (fail)
  refine (szCircuit_f hb0 hb1 hb2 hm).mono ?_
  rintro ee v ⟨rfl, hv⟩
  go_wp2_with (fail)
  go_ret
  refine ⟨rfl, ?_⟩
  (repeat' (first | (with_reducible exact Below.refl _ _) | (with_reducible assumption) | (with_reducible refine Below.alloc ?_ ?_ _) | (with_reducible refine Below.drew ?_) | (with_reducible refine bdN ?_ _) | (with_reducible refine Below.setCell ?_ ?_ _) | (with_reducible refine chn ?_ (by assumption) ?_) | omega | (simp; done) | (simp; omega)))

set_option maxRecDepth 100000 in
set_option maxHeartbeats 4000000 in
theorem bigConcat1 {a0p0 : Int} {A1p0 : Option Addr} {n1p0 c1p0 : Nat} {a0p1 : Int} {A1p1 : Option Addr} {n1p1 c1p1 : Nat} {w : World} (h0 : (n1p0 : Int) ≤ 1048576) (hb : 1048576 - (n1p0 : Int) < (n1p1 : Int)) (hm : n1p1 ≤ maxLen) :
    Calls Try.prog 14 #[(circuitV a0p0 A1p0 n1p0 c1p0), (circuitV a0p1 A1p1 n1p1 c1p1)] w fun ee w' => ee = .returned (.bool true) ∧ Below w.heap.size w w' := by
  have hu : n1p1 ≤ 9223372036854775807 := by unfold maxLen at hm; omega
  have m0 : ¬ (1048576 - (n1p0 : Int) < 0) := by omega
  have o0 : 0 ≤ 1048576 - (n1p0 : Int) := by omega
  have s0 : (n1p0 : Int) ≤ 1048576 := by omega
  have t0 : 1048576 ≤ (1048576 : Int) := by omega
  have hb0 : 1048576 - (n1p0 : Int) < (n1p1 : Int) := by omega
  have hb1 : 1048576 - (n1p0 : Int) ≤ (1048576 : Int) := by omega
  have hb2 : (0 : Int) ≤ 1048576 - (n1p0 : Int) := by omega
  go_enter Try.func14, Try.ntmps14
  go_wp2_with (fail)
  refine (szCircuit_t s0 t0).mono ?_
  rintro ee w1 ⟨rfl, hb_1⟩
  obtain ⟨hc1, hf1, _⟩ := bcl hb_1
  have hz1 := hb_1.size
  (try simp at hz1)
  (try have hx10 : w.heap.size < w1.heap.size := (by omega))
  (try have hx11 : w.heap.size + 1 < w1.heap.size := (by omega))
  (try have hx12 : w.heap.size + 1 + 1 < w1.heap.size := (by omega))
  (try have hx13 : w.heap.size + 1 + 1 + 1 < w1.heap.size := (by omega))
  (try have hx14 : w.heap.size + 1 + 1 + 1 + 1 < w1.heap.size := (by omega))
  go_wp2_with (fail)
  refine (szCircuit_f hb0 hb1 hb2 hm).mono ?_
  rintro ee v ⟨rfl, hv⟩
  go_wp2_with (fail)
  go_ret
  refine ⟨rfl, ?_⟩
  (repeat' (first | (with_reducible exact Below.refl _ _) | (with_reducible assumption) | (with_reducible refine Below.alloc ?_ ?_ _) | (with_reducible refine Below.drew ?_) | (with_reducible refine bdN ?_ _) | (with_reducible refine Below.setCell ?_ ?_ _) | (with_reducible refine chn ?_ (by assumption) ?_) | omega | (simp; done) | (simp; omega)))

set_option maxRecDepth 100000 in
set_option maxHeartbeats 4000000 in
theorem bigMapQubits0 {a0p0 : Int} {A1p0 : Option Addr} {n1p0 c1p0 : Nat} {A1 : Option Addr} {n1 c1 : Nat} {i2 : Int} {w : World} (hb : 1048576 < (n1 : Int)) (hm : n1 ≤ maxLen) :
    Calls Try.prog 18 #[(circuitV a0p0 A1p0 n1p0 c1p0), .slice A1 n1 c1, .int .i64 i2] w fun ee w' => ee = .returned (.bool true) ∧ Below w.heap.size w w' := by
  have hu : n1 ≤ 9223372036854775807 := by unfold maxLen at hm; omega
  have hb0 : (1048576 : Int) < (n1 : Int) := by omega
  go_enter Try.func18, Try.ntmps18
  go_wp2_with (fail)
  go_ret
  refine ⟨rfl, ?_⟩
  (repeat' (first | (with_reducible exact Below.refl _ _) | (with_reducible assumption) | (with_reducible refine Below.alloc ?_ ?_ _) | (with_reducible refine Below.drew ?_) | (with_reducible refine bdN ?_ _) | (with_reducible refine Below.setCell ?_ ?_ _) | (with_reducible refine chn ?_ (by assumption) ?_) | omega | (simp; done) | (simp; omega)))

set_option maxRecDepth 100000 in
set_option maxHeartbeats 4000000 in
theorem bigMapQubits1 {a0p0 : Int} {A1p0 : Option Addr} {n1p0 c1p0 : Nat} {A1 : Option Addr} {n1 c1 : Nat} {i2 : Int} {w : World} (h0 : n1 ≤ 1048576) (hb : 1048576 < (n1p0 : Int)) (hm : n1p0 ≤ maxLen) :
    Calls Try.prog 18 #[(circuitV a0p0 A1p0 n1p0 c1p0), .slice A1 n1 c1, .int .i64 i2] w fun ee w' => ee = .returned (.bool true) ∧ Below w.heap.size w w' := by
  have hu : n1p0 ≤ 9223372036854775807 := by unfold maxLen at hm; omega
  have m0 : ¬ ((1048576 : Int) < (n1 : Int)) := by omega
  have hb0 : 1048576 < (n1p0 : Int) := by omega
  have hb1 : 1048576 ≤ (1048576 : Int) := by omega
  have hb2 : (0 : Int) ≤ 1048576 := by omega
  go_enter Try.func18, Try.ntmps18
  go_wp2_with (fail)
  refine (szCircuit_f hb0 hb1 hb2 hm).mono ?_
  rintro ee v ⟨rfl, hv⟩
  go_wp2_with (fail)
  go_ret
  refine ⟨rfl, ?_⟩
  (repeat' (first | (with_reducible exact Below.refl _ _) | (with_reducible assumption) | (with_reducible refine Below.alloc ?_ ?_ _) | (with_reducible refine Below.drew ?_) | (with_reducible refine bdN ?_ _) | (with_reducible refine Below.setCell ?_ ?_ _) | (with_reducible refine chn ?_ (by assumption) ?_) | omega | (simp; done) | (simp; omega)))

end Go.Proofs.Ytfbffncbdddemaa
