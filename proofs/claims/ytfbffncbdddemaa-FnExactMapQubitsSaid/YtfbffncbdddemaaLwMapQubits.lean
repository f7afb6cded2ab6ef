/- The walk of the law on MapQubits. -/
import Derived.Test.YtfbffncbdddemaaCirc
import Derived.Deep.RegionHeld3
import Derived.Deep.DeepCutAuto
import Derived.Test.YtfbffncbdddemaaFlatI
namespace Go.Proofs.Ytfbffncbdddemaa
open Go.RowKit
set_option linter.unusedVariables false
set_option linter.unusedSimpArgs false
attribute [local irreducible] World.setCell

set_option maxRecDepth 100000 in
set_option maxHeartbeats 16000000 in
theorem lwMapQubits {a0p0 : Int} {A1p0 : Option Addr} {n1p0 c1p0 : Nat} {xs1p0 : List GateV} {A1 : Option Addr} {n1 c1 : Nat} {xs1 : List Int} {i2 : Int} {a0q0 : Int} {k1q0 : Nat} {zs1q0 : List GateV} {r1 : Bool} {w : World} (hS : ∀ (g1p0 g1 : Nat) (w : World), Rd gateE w (some ⟨g1p0, 0, none⟩) xs1p0 → Rd intE w (some ⟨g1, 0, none⟩) xs1 → Calls Try.prog 40 #[circuitV a0p0 (some ⟨g1p0, 0, none⟩) n1p0 n1p0, .slice (some ⟨g1, 0, none⟩) n1 n1, .int .i64 i2] w fun ee w' => ∃ A1q0 c1q0, ee = .returned (.tuple #[circuitV a0q0 A1q0 k1q0 c1q0, .bool r1]) ∧ (Rd gateE w' A1q0 zs1q0 ∧ (∀ a, A1q0 = some a → w.heap.size ≤ a.block)) ∧ Below w.heap.size w w') (hI : ∀ (g1p0 g1 : Nat) (w : World), Rd gateE w (some ⟨g1p0, 0, none⟩) xs1p0 → Rd intE w (some ⟨g1, 0, none⟩) xs1 → Calls Try.prog 39 #[circuitV a0p0 (some ⟨g1p0, 0, none⟩) n1p0 n1p0, .slice (some ⟨g1, 0, none⟩) n1 n1, .int .i64 i2] w fun ee w' => ∃ A1q0 c1q0, ee = .returned (.tuple #[circuitV a0q0 A1q0 k1q0 c1q0, .bool r1]) ∧ Ow gateE w' w.heap.size 76 A1q0 zs1q0 ∧ Below w.heap.size w w') (hz1q0 : zs1q0.length = k1q0) (hk1q0 : k1q0 ≤ 1048576) (hA1p0 : Rd gateE w A1p0 xs1p0) (hn1p0 : xs1p0.length = n1p0) (hb1p0 : (n1p0 : Int) ≤ 1048576) (hA1 : Rd intE w A1 xs1) (hn1 : xs1.length = n1) (hb1 : n1 ≤ 1048576) :
    Calls Try.prog 18 #[(circuitV a0p0 A1p0 n1p0 c1p0), .slice A1 n1 c1, .int .i64 i2] w fun ee w' => ee = .returned (.bool true) ∧ Below w.heap.size w w' := by
  have HZ1q0 := lay hz1q0
  have HAA1p0 := lay hA1p0
  have HN1p0 := lay hn1p0
  have HAA1 := lay hA1
  have HN1 := lay hn1
  have HS := lay hS
  have HI := lay hI
  have u0 : ¬ (1048576 - (n1p0 : Int) < 0) := by omega
  have v0 : 0 ≤ 1048576 - (n1p0 : Int) := by omega
  have s0 : (n1p0 : Int) ≤ 1048576 := by omega
  have t0 : 1048576 ≤ (1048576 : Int) := by omega
  have bn1p0 : n1p0 ≤ 1048576 := by omega
  have bn1 : n1 ≤ 1048576 := by omega
  have bm1 : ¬ ((1048576 : Int) < (n1 : Int)) := by omega
  have um0 : ¬ (1 + 3 * (n1p0 : Int) < 0) := by omega
  have vm0 : 0 ≤ 1 + 3 * (n1p0 : Int) := by omega
  have wm0 : 1 + 3 * (n1p0 : Int) ≤ 100000000 := by omega
  have um1 : ¬ (1 + 3 * (n1p0 : Int) + (n1 : Int) < 0) := by omega
  have vm1 : 0 ≤ 1 + 3 * (n1p0 : Int) + (n1 : Int) := by omega
  have wm1 : 1 + 3 * (n1p0 : Int) + (n1 : Int) ≤ 100000000 := by omega
  have uk1q0 : ¬ (1 + 3 * (k1q0 : Int) < 0) := by omega
  have vk1q0 : 0 ≤ 1 + 3 * (k1q0 : Int) := by omega
  have wk1q0 : 1 + 3 * (k1q0 : Int) ≤ 100000000 := by omega
  clear hS hI hz1q0 hA1p0 hn1p0 hA1 hn1
  go_enter Try.func18, Try.ntmps18
  go_wp2_with (fail)
  refine (szCircuit_t s0 t0).mono ?_
  rintro ee w1 ⟨rfl, hb1⟩
  have hL1 : Below w.heap.size w w1 := by (repeat' (first | (with_reducible exact Below.refl _ _) | (with_reducible assumption) | (with_reducible refine Below.alloc ?_ ?_ _) | (with_reducible refine Below.drew ?_) | (with_reducible refine bdN ?_ _) | (with_reducible refine Below.setCell ?_ ?_ _) | (with_reducible refine chn ?_ (by assumption) ?_) | omega | (simp; done) | (simp; omega)))
  have hz1 := hb1.size
  (try simp only [World.size_alloc] at hz1)
  have hB1 : Below w.heap.size w w1 := hL1
  have k1_0_0 : w1.cell? ⟨w.heap.size, 0, none⟩ = some (.int .i64 a0p0) := (hb1.cell (p := ⟨w.heap.size, 0, none⟩) (by show w.heap.size < _; (try simp only [World.size_alloc]); omega)).trans (by first | rfl | (simp; done) | (simp [*]; done))
  have k1_0_1 : w1.cell? ⟨w.heap.size, 1, none⟩ = some (.slice (A1p0) n1p0 c1p0) := (hb1.cell (p := ⟨w.heap.size, 1, none⟩) (by show w.heap.size < _; (try simp only [World.size_alloc]); omega)).trans (by first | rfl | (simp; done) | (simp [*]; done))
  have bl1_0 : w.heap.size < w1.heap.size := World.block_lt_of_cell? _ _ k1_0_0
  clear hb1 hL1
  go_wp2_with (fail)
  refine (toCircuit ?_ HN1p0.out bn1p0 ).mono ?_
  · exact HAA1p0.out.mono (by (repeat' (first | (with_reducible exact Below.refl _ _) | (with_reducible assumption) | (with_reducible refine Below.alloc ?_ ?_ _) | (with_reducible refine Below.drew ?_) | (with_reducible refine bdN ?_ _) | (with_reducible refine Below.setCell ?_ ?_ _) | (with_reducible refine chn ?_ (by assumption) ?_) | omega | (simp; done) | (simp; omega))))
  rintro ee w2 ⟨g2_1, rfl, hK2_1, hg2_1, hb2⟩
  have hL2 : Below w1.heap.size w1 w2 := by (repeat' (first | (with_reducible exact Below.refl _ _) | (with_reducible assumption) | (with_reducible refine Below.alloc ?_ ?_ _) | (with_reducible refine Below.drew ?_) | (with_reducible refine bdN ?_ _) | (with_reducible refine Below.setCell ?_ ?_ _) | (with_reducible refine chn ?_ (by assumption) ?_) | omega | (simp; done) | (simp; omega)))
  have hz2 := hb2.size
  (try simp only [World.size_alloc] at hz2)
  have hB2 : Below w.heap.size w w2 := chn hB1 hL2 hB1.size
  have k2_0_0 : w2.cell? ⟨w.heap.size, 0, none⟩ = some (.int .i64 a0p0) := (hL2.cell (p := ⟨w.heap.size, 0, none⟩) (by show w.heap.size < w1.heap.size; omega)).trans k1_0_0
  have k2_0_1 : w2.cell? ⟨w.heap.size, 1, none⟩ = some (.slice (A1p0) n1p0 c1p0) := (hL2.cell (p := ⟨w.heap.size, 1, none⟩) (by show w.heap.size < w1.heap.size; omega)).trans k1_0_1
  have bl2_0 : w.heap.size < w2.heap.size := World.block_lt_of_cell? _ _ k2_0_0
  clear hb2 hL2
  clear k1_0_0 k1_0_1
  (try simp only [World.size_alloc] at hg2_1)
  have HR02 := lay hK2_1
  clear hK2_1
  go_wp2_with (fail)
  refine (toIntS (xs := xs1) ?_ HN1.out bn1).mono ?_
  · exact HAA1.out.mono (by (repeat' (first | (with_reducible exact Below.refl _ _) | (with_reducible assumption) | (with_reducible refine Below.alloc ?_ ?_ _) | (with_reducible refine Below.drew ?_) | (with_reducible refine bdN ?_ _) | (with_reducible refine Below.setCell ?_ ?_ _) | (with_reducible refine chn ?_ (by assumption) ?_) | omega | (simp; done) | (simp; omega))))
  rintro ee w3 ⟨rfl, hK3, hb3⟩
  have hL3 : Below w2.heap.size w2 w3 := by (repeat' (first | (with_reducible exact Below.refl _ _) | (with_reducible assumption) | (with_reducible refine Below.alloc ?_ ?_ _) | (with_reducible refine Below.drew ?_) | (with_reducible refine bdN ?_ _) | (with_reducible refine Below.setCell ?_ ?_ _) | (with_reducible refine chn ?_ (by assumption) ?_) | omega | (simp; done) | (simp; omega)))
  have hz3 := hb3.size
  (try simp only [World.size_alloc] at hz3)
  have hB3 : Below w.heap.size w w3 := chn hB2 hL3 hB2.size
  have k3_0_0 : w3.cell? ⟨w.heap.size, 0, none⟩ = some (.int .i64 a0p0) := (hL3.cell (p := ⟨w.heap.size, 0, none⟩) (by show w.heap.size < w2.heap.size; omega)).trans k2_0_0
  have k3_0_1 : w3.cell? ⟨w.heap.size, 1, none⟩ = some (.slice (A1p0) n1p0 c1p0) := (hL3.cell (p := ⟨w.heap.size, 1, none⟩) (by show w.heap.size < w2.heap.size; omega)).trans k2_0_1
  have bl3_0 : w.heap.size < w3.heap.size := World.block_lt_of_cell? _ _ k3_0_0
  have HR03 := lay (HR02.out.mono hL3)
  clear hb3 hL3
  clear k2_0_0 k2_0_1 HR02
  (try simp only [World.size_alloc] at hK3)
  have HR13 := lay hK3
  clear hK3
  go_wp2_with (fail)
  refine (HS.out _ _ _ ?_ ?_).mono ?_
  · exact HR03.out.rd.mono (by (repeat' (first | (with_reducible exact Below.refl _ _) | (with_reducible assumption) | (with_reducible refine Below.alloc ?_ ?_ _) | (with_reducible refine Below.drew ?_) | (with_reducible refine bdN ?_ _) | (with_reducible refine Below.setCell ?_ ?_ _) | (with_reducible refine chn ?_ (by assumption) ?_) | omega | (simp; done) | (simp; omega))))
  · exact HR13.out.rd.mono (by (repeat' (first | (with_reducible exact Below.refl _ _) | (with_reducible assumption) | (with_reducible refine Below.alloc ?_ ?_ _) | (with_reducible refine Below.drew ?_) | (with_reducible refine bdN ?_ _) | (with_reducible refine Below.setCell ?_ ?_ _) | (with_reducible refine chn ?_ (by assumption) ?_) | omega | (simp; done) | (simp; omega))))
  rintro ee w4 ⟨A4_1q0, c4_1q0, rfl, hR4_1q0, hb4⟩
  have hL4 : Below w3.heap.size w3 w4 := by (repeat' (first | (with_reducible exact Below.refl _ _) | (with_reducible assumption) | (with_reducible refine Below.alloc ?_ ?_ _) | (with_reducible refine Below.drew ?_) | (with_reducible refine bdN ?_ _) | (with_reducible refine Below.setCell ?_ ?_ _) | (with_reducible refine chn ?_ (by assumption) ?_) | omega | (simp; done) | (simp; omega)))
  have hz4 := hb4.size
  (try simp only [World.size_alloc] at hz4)
  have hB4 : Below w.heap.size w w4 := chn hB3 hL4 hB3.size
  have k4_0_0 : w4.cell? ⟨w.heap.size, 0, none⟩ = some (.int .i64 a0p0) := (hL4.cell (p := ⟨w.heap.size, 0, none⟩) (by show w.heap.size < w3.heap.size; omega)).trans k3_0_0
  have k4_0_1 : w4.cell? ⟨w.heap.size, 1, none⟩ = some (.slice (A1p0) n1p0 c1p0) := (hL4.cell (p := ⟨w.heap.size, 1, none⟩) (by show w.heap.size < w3.heap.size; omega)).trans k3_0_1
  have bl4_0 : w.heap.size < w4.heap.size := World.block_lt_of_cell? _ _ k4_0_0
  have HR04 := lay (HR03.out.mono hL4)
  have HR14 := lay (HR13.out.mono hL4)
  clear hb4 hL4
  clear k3_0_0 k3_0_1 HR03 HR13
  clear HR04
  clear HR14
  have HW1q04 : Hid (RdB gateE w4 w4.heap.size A4_1q0 zs1q0) := hR4_1q0.1.b (Nat.le_refl _)
  clear hR4_1q0
  go_wp2_with (fail)
  refine (toCircuit ?_ HN1p0.out bn1p0 ).mono ?_
  · exact HAA1p0.out.mono (by (repeat' (first | (with_reducible exact Below.refl _ _) | (with_reducible assumption) | (with_reducible refine Below.alloc ?_ ?_ _) | (with_reducible refine Below.drew ?_) | (with_reducible refine bdN ?_ _) | (with_reducible refine Below.setCell ?_ ?_ _) | (with_reducible refine chn ?_ (by assumption) ?_) | omega | (simp; done) | (simp; omega))))
  rintro ee w5 ⟨g5_1, rfl, hK5_1, hg5_1, hb5⟩
  have hL5 : Below w4.heap.size w4 w5 := by (repeat' (first | (with_reducible exact Below.refl _ _) | (with_reducible assumption) | (with_reducible refine Below.alloc ?_ ?_ _) | (with_reducible refine Below.drew ?_) | (with_reducible refine bdN ?_ _) | (with_reducible refine Below.setCell ?_ ?_ _) | (with_reducible refine chn ?_ (by assumption) ?_) | omega | (simp; done) | (simp; omega)))
  have hz5 := hb5.size
  (try simp only [World.size_alloc] at hz5)
  have hB5 : Below w.heap.size w w5 := chn hB4 hL5 hB4.size
  have k5_0_0 : w5.cell? ⟨w.heap.size, 0, none⟩ = some (.int .i64 a0p0) := (hL5.cell (p := ⟨w.heap.size, 0, none⟩) (by show w.heap.size < w4.heap.size; omega)).trans k4_0_0
  have k5_0_1 : w5.cell? ⟨w.heap.size, 1, none⟩ = some (.slice (A1p0) n1p0 c1p0) := (hL5.cell (p := ⟨w.heap.size, 1, none⟩) (by show w.heap.size < w4.heap.size; omega)).trans k4_0_1
  have k5_1_0 : w5.cell? ⟨w4.heap.size, 0, none⟩ = some (.int .i64 a0q0) := (hb5.cell (p := ⟨w4.heap.size, 0, none⟩) (by show w4.heap.size < _; (try simp only [World.size_alloc]); omega)).trans (by first | rfl | (simp; done) | (simp [*]; done))
  have k5_1_1 : w5.cell? ⟨w4.heap.size, 1, none⟩ = some (.slice A4_1q0 k1q0 c4_1q0) := (hb5.cell (p := ⟨w4.heap.size, 1, none⟩) (by show w4.heap.size < _; (try simp only [World.size_alloc]); omega)).trans (by first | rfl | (simp; done) | (simp [*]; done))
  have bl5_0 : w.heap.size < w5.heap.size := World.block_lt_of_cell? _ _ k5_0_0
  have bl5_1 : w4.heap.size < w5.heap.size := World.block_lt_of_cell? _ _ k5_1_0
  have HW1q05 := lay (HW1q04.out.mono hL5)
  clear hb5 hL5
  clear k4_0_0 k4_0_1 HW1q04
  (try simp only [World.size_alloc] at hg5_1)
  have HX25 : Hid (Ow gateE w5 (w4.heap.size + 1) 76 (some ⟨g5_1, 0, none⟩) xs1p0) := hK5_1.ow (by omega)
  clear hK5_1
  have hr_X2 := HX25.out.row
  go_wp2_with (fail)
  refine (toIntS (xs := xs1) ?_ HN1.out bn1).mono ?_
  · exact HAA1.out.mono (by (repeat' (first | (with_reducible exact Below.refl _ _) | (with_reducible assumption) | (with_reducible refine Below.alloc ?_ ?_ _) | (with_reducible refine Below.drew ?_) | (with_reducible refine bdN ?_ _) | (with_reducible refine Below.setCell ?_ ?_ _) | (with_reducible refine chn ?_ (by assumption) ?_) | omega | (simp; done) | (simp; omega))))
  rintro ee w6 ⟨rfl, hK6, hb6⟩
  have hL6 : Below w5.heap.size w5 w6 := by (repeat' (first | (with_reducible exact Below.refl _ _) | (with_reducible assumption) | (with_reducible refine Below.alloc ?_ ?_ _) | (with_reducible refine Below.drew ?_) | (with_reducible refine bdN ?_ _) | (with_reducible refine Below.setCell ?_ ?_ _) | (with_reducible refine chn ?_ (by assumption) ?_) | omega | (simp; done) | (simp; omega)))
  have hz6 := hb6.size
  (try simp only [World.size_alloc] at hz6)
  have hB6 : Below w.heap.size w w6 := chn hB5 hL6 hB5.size
  have k6_0_0 : w6.cell? ⟨w.heap.size, 0, none⟩ = some (.int .i64 a0p0) := (hL6.cell (p := ⟨w.heap.size, 0, none⟩) (by show w.heap.size < w5.heap.size; omega)).trans k5_0_0
  have k6_0_1 : w6.cell? ⟨w.heap.size, 1, none⟩ = some (.slice (A1p0) n1p0 c1p0) := (hL6.cell (p := ⟨w.heap.size, 1, none⟩) (by show w.heap.size < w5.heap.size; omega)).trans k5_0_1
  have k6_1_0 : w6.cell? ⟨w4.heap.size, 0, none⟩ = some (.int .i64 a0q0) := (hL6.cell (p := ⟨w4.heap.size, 0, none⟩) (by show w4.heap.size < w5.heap.size; omega)).trans k5_1_0
  have k6_1_1 : w6.cell? ⟨w4.heap.size, 1, none⟩ = some (.slice A4_1q0 k1q0 c4_1q0) := (hL6.cell (p := ⟨w4.heap.size, 1, none⟩) (by show w4.heap.size < w5.heap.size; omega)).trans k5_1_1
  have k6_2_0 : w6.cell? ⟨w5.heap.size, 0, none⟩ = some (.int .i64 a0p0) := (hb6.cell (p := ⟨w5.heap.size, 0, none⟩) (by show w5.heap.size < _; (try simp only [World.size_alloc]); omega)).trans (by first | rfl | (simp; done) | (simp [*]; done))
  have k6_2_1 : w6.cell? ⟨w5.heap.size, 1, none⟩ = some (.slice (some ⟨g5_1, 0, none⟩) n1p0 n1p0) := (hb6.cell (p := ⟨w5.heap.size, 1, none⟩) (by show w5.heap.size < _; (try simp only [World.size_alloc]); omega)).trans (by first | rfl | (simp; done) | (simp [*]; done))
  have bl6_0 : w.heap.size < w6.heap.size := World.block_lt_of_cell? _ _ k6_0_0
  have bl6_1 : w4.heap.size < w6.heap.size := World.block_lt_of_cell? _ _ k6_1_0
  have bl6_2 : w5.heap.size < w6.heap.size := World.block_lt_of_cell? _ _ k6_2_0
  have HW1q06 := lay (HW1q05.out.mono hL6)
  have HX26 := lay (HX25.out.mono hL6)
  clear hb6 hL6
  clear k5_0_0 k5_0_1 k5_1_0 k5_1_1 HW1q05 HX25
  (try simp only [World.size_alloc] at hK6)
  have HX36 : Hid (Ow intE w6 (w5.heap.size + 1) 3 (some ⟨w5.heap.size + 1, 0, none⟩) xs1) := hK6.ow (by omega)
  clear hK6
  have hr_X3 := HX36.out.row
  go_wp2_with (fail)
  refine (HI.out _ _ _ ?_ ?_).mono ?_
  · exact HX26.out.rd.mono (by (repeat' (first | (with_reducible exact Below.refl _ _) | (with_reducible assumption) | (with_reducible refine Below.alloc ?_ ?_ _) | (with_reducible refine Below.drew ?_) | (with_reducible refine bdN ?_ _) | (with_reducible refine Below.setCell ?_ ?_ _) | (with_reducible refine chn ?_ (by assumption) ?_) | omega | (simp; done) | (simp; omega))))
  · exact HX36.out.rd.mono (by (repeat' (first | (with_reducible exact Below.refl _ _) | (with_reducible assumption) | (with_reducible refine Below.alloc ?_ ?_ _) | (with_reducible refine Below.drew ?_) | (with_reducible refine bdN ?_ _) | (with_reducible refine Below.setCell ?_ ?_ _) | (with_reducible refine chn ?_ (by assumption) ?_) | omega | (simp; done) | (simp; omega))))
  rintro ee w7 ⟨A7_1q0, c7_1q0, rfl, hO7_1q0, hb7⟩
  have hL7 : Below w6.heap.size w6 w7 := by (repeat' (first | (with_reducible exact Below.refl _ _) | (with_reducible assumption) | (with_reducible refine Below.alloc ?_ ?_ _) | (with_reducible refine Below.drew ?_) | (with_reducible refine bdN ?_ _) | (with_reducible refine Below.setCell ?_ ?_ _) | (with_reducible refine chn ?_ (by assumption) ?_) | omega | (simp; done) | (simp; omega)))
  have hz7 := hb7.size
  (try simp only [World.size_alloc] at hz7)
  have hB7 : Below w.heap.size w w7 := chn hB6 hL7 hB6.size
  have k7_0_0 : w7.cell? ⟨w.heap.size, 0, none⟩ = some (.int .i64 a0p0) := (hL7.cell (p := ⟨w.heap.size, 0, none⟩) (by show w.heap.size < w6.heap.size; omega)).trans k6_0_0
  have k7_0_1 : w7.cell? ⟨w.heap.size, 1, none⟩ = some (.slice (A1p0) n1p0 c1p0) := (hL7.cell (p := ⟨w.heap.size, 1, none⟩) (by show w.heap.size < w6.heap.size; omega)).trans k6_0_1
  have k7_1_0 : w7.cell? ⟨w4.heap.size, 0, none⟩ = some (.int .i64 a0q0) := (hL7.cell (p := ⟨w4.heap.size, 0, none⟩) (by show w4.heap.size < w6.heap.size; omega)).trans k6_1_0
  have k7_1_1 : w7.cell? ⟨w4.heap.size, 1, none⟩ = some (.slice A4_1q0 k1q0 c4_1q0) := (hL7.cell (p := ⟨w4.heap.size, 1, none⟩) (by show w4.heap.size < w6.heap.size; omega)).trans k6_1_1
  have k7_2_0 : w7.cell? ⟨w5.heap.size, 0, none⟩ = some (.int .i64 a0p0) := (hL7.cell (p := ⟨w5.heap.size, 0, none⟩) (by show w5.heap.size < w6.heap.size; omega)).trans k6_2_0
  have k7_2_1 : w7.cell? ⟨w5.heap.size, 1, none⟩ = some (.slice (some ⟨g5_1, 0, none⟩) n1p0 n1p0) := (hL7.cell (p := ⟨w5.heap.size, 1, none⟩) (by show w5.heap.size < w6.heap.size; omega)).trans k6_2_1
  have bl7_0 : w.heap.size < w7.heap.size := World.block_lt_of_cell? _ _ k7_0_0
  have bl7_1 : w4.heap.size < w7.heap.size := World.block_lt_of_cell? _ _ k7_1_0
  have bl7_2 : w5.heap.size < w7.heap.size := World.block_lt_of_cell? _ _ k7_2_0
  have HW1q07 := lay (HW1q06.out.mono hL7)
  have HX27 := lay (HX26.out.mono hL7)
  have HX37 := lay (HX36.out.mono hL7)
  clear hb7 hL7
  clear k6_0_0 k6_0_1 k6_1_0 k6_1_1 k6_2_0 k6_2_1 HW1q06 HX26 HX36
  (try simp only [World.size_alloc] at hO7_1q0)
  have HG1q07 : Hid (Ow gateE w7 (w6.heap.size) 76 A7_1q0 zs1q0) := hO7_1q0.dn (by omega)
  clear hO7_1q0
  have hr_G1q0 := HG1q07.out.row
  go_wp2_with (fail)
  refine (eqCircuit (xs1 := zs1q0) ?_ ?_ HZ1q0.out hk1q0).mono ?_
  · exact HG1q07.out.rd.mono (by (repeat' (first | (with_reducible exact Below.refl _ _) | (with_reducible assumption) | (with_reducible refine Below.alloc ?_ ?_ _) | (with_reducible refine Below.drew ?_) | (with_reducible refine bdN ?_ _) | (with_reducible refine Below.setCell ?_ ?_ _) | (with_reducible refine chn ?_ (by assumption) ?_) | omega | (simp; done) | (simp; omega))))
  · exact HW1q07.out.rd.mono (by (repeat' (first | (with_reducible exact Below.refl _ _) | (with_reducible assumption) | (with_reducible refine Below.alloc ?_ ?_ _) | (with_reducible refine Below.drew ?_) | (with_reducible refine bdN ?_ _) | (with_reducible refine Below.setCell ?_ ?_ _) | (with_reducible refine chn ?_ (by assumption) ?_) | omega | (simp; done) | (simp; omega))))
  rintro ee w8 ⟨rfl, hb8⟩
  have hL8 : Below w7.heap.size w7 w8 := by (repeat' (first | (with_reducible exact Below.refl _ _) | (with_reducible assumption) | (with_reducible refine Below.alloc ?_ ?_ _) | (with_reducible refine Below.drew ?_) | (with_reducible refine bdN ?_ _) | (with_reducible refine Below.setCell ?_ ?_ _) | (with_reducible refine chn ?_ (by assumption) ?_) | omega | (simp; done) | (simp; omega)))
  have hz8 := hb8.size
  (try simp only [World.size_alloc] at hz8)
  have hB8 : Below w.heap.size w w8 := chn hB7 hL8 hB7.size
  have k8_0_0 : w8.cell? ⟨w.heap.size, 0, none⟩ = some (.int .i64 a0p0) := (hL8.cell (p := ⟨w.heap.size, 0, none⟩) (by show w.heap.size < w7.heap.size; omega)).trans k7_0_0
  have k8_0_1 : w8.cell? ⟨w.heap.size, 1, none⟩ = some (.slice (A1p0) n1p0 c1p0) := (hL8.cell (p := ⟨w.heap.size, 1, none⟩) (by show w.heap.size < w7.heap.size; omega)).trans k7_0_1
  have k8_1_0 : w8.cell? ⟨w4.heap.size, 0, none⟩ = some (.int .i64 a0q0) := (hL8.cell (p := ⟨w4.heap.size, 0, none⟩) (by show w4.heap.size < w7.heap.size; omega)).trans k7_1_0
  have k8_1_1 : w8.cell? ⟨w4.heap.size, 1, none⟩ = some (.slice A4_1q0 k1q0 c4_1q0) := (hL8.cell (p := ⟨w4.heap.size, 1, none⟩) (by show w4.heap.size < w7.heap.size; omega)).trans k7_1_1
  have k8_2_0 : w8.cell? ⟨w5.heap.size, 0, none⟩ = some (.int .i64 a0p0) := (hL8.cell (p := ⟨w5.heap.size, 0, none⟩) (by show w5.heap.size < w7.heap.size; omega)).trans k7_2_0
  have k8_2_1 : w8.cell? ⟨w5.heap.size, 1, none⟩ = some (.slice (some ⟨g5_1, 0, none⟩) n1p0 n1p0) := (hL8.cell (p := ⟨w5.heap.size, 1, none⟩) (by show w5.heap.size < w7.heap.size; omega)).trans k7_2_1
  have k8_3_0 : w8.cell? ⟨w7.heap.size, 0, none⟩ = some (.int .i64 a0q0) := (hb8.cell (p := ⟨w7.heap.size, 0, none⟩) (by show w7.heap.size < _; (try simp only [World.size_alloc]); omega)).trans (by first | rfl | (simp; done) | (simp [*]; done))
  have k8_3_1 : w8.cell? ⟨w7.heap.size, 1, none⟩ = some (.slice A7_1q0 k1q0 c7_1q0) := (hb8.cell (p := ⟨w7.heap.size, 1, none⟩) (by show w7.heap.size < _; (try simp only [World.size_alloc]); omega)).trans (by first | rfl | (simp; done) | (simp [*]; done))
  have bl8_0 : w.heap.size < w8.heap.size := World.block_lt_of_cell? _ _ k8_0_0
  have bl8_1 : w4.heap.size < w8.heap.size := World.block_lt_of_cell? _ _ k8_1_0
  have bl8_2 : w5.heap.size < w8.heap.size := World.block_lt_of_cell? _ _ k8_2_0
  have bl8_3 : w7.heap.size < w8.heap.size := World.block_lt_of_cell? _ _ k8_3_0
  have HW1q08 := lay (HW1q07.out.mono hL8)
  have HX28 := lay (HX27.out.mono hL8)
  have HX38 := lay (HX37.out.mono hL8)
  have HG1q08 := lay (HG1q07.out.mono hL8)
  clear hb8 hL8
  clear k7_0_0 k7_0_1 k7_1_0 k7_1_1 k7_2_0 k7_2_1 HW1q07 HX27 HX37 HG1q07
  go_wp2_with (fail)
  go_cut [60] (fun s60 wx => (s60 = .bool false) ∧ (wx.cell? ⟨w.heap.size, 0, none⟩ = some (.int .i64 a0p0) ∧ wx.cell? ⟨w.heap.size, 1, none⟩ = some (.slice (A1p0) n1p0 c1p0) ∧ wx.cell? ⟨w4.heap.size, 0, none⟩ = some (.int .i64 a0q0) ∧ wx.cell? ⟨w4.heap.size, 1, none⟩ = some (.slice A4_1q0 k1q0 c4_1q0) ∧ wx.cell? ⟨w5.heap.size, 0, none⟩ = some (.int .i64 a0p0) ∧ wx.cell? ⟨w5.heap.size, 1, none⟩ = some (.slice (some ⟨g5_1, 0, none⟩) n1p0 n1p0) ∧ wx.cell? ⟨w7.heap.size, 0, none⟩ = some (.int .i64 a0q0) ∧ wx.cell? ⟨w7.heap.size, 1, none⟩ = some (.slice A7_1q0 k1q0 c7_1q0) ∧ Hid (RdB gateE wx w4.heap.size A4_1q0 zs1q0) ∧ Hid (Ow gateE wx (w4.heap.size + 1) 76 (some ⟨g5_1, 0, none⟩) xs1p0) ∧ Hid (Ow intE wx (w5.heap.size + 1) 3 (some ⟨w5.heap.size + 1, 0, none⟩) xs1) ∧ Hid (Ow gateE wx (w6.heap.size) 76 A7_1q0 zs1q0) ∧ w8.heap.size ≤ wx.heap.size ∧ Below w.heap.size w wx))
  case first =>
    have yk8_0_0 : w8.drew.cell? ⟨w.heap.size, 0, none⟩ = some (.int .i64 a0p0) := k8_0_0
    have yk8_0_1 : w8.drew.cell? ⟨w.heap.size, 1, none⟩ = some (.slice (A1p0) n1p0 c1p0) := k8_0_1
    have yk8_1_0 : w8.drew.cell? ⟨w4.heap.size, 0, none⟩ = some (.int .i64 a0q0) := k8_1_0
    have yk8_1_1 : w8.drew.cell? ⟨w4.heap.size, 1, none⟩ = some (.slice A4_1q0 k1q0 c4_1q0) := k8_1_1
    have yk8_2_0 : w8.drew.cell? ⟨w5.heap.size, 0, none⟩ = some (.int .i64 a0p0) := k8_2_0
    have yk8_2_1 : w8.drew.cell? ⟨w5.heap.size, 1, none⟩ = some (.slice (some ⟨g5_1, 0, none⟩) n1p0 n1p0) := k8_2_1
    have yk8_3_0 : w8.drew.cell? ⟨w7.heap.size, 0, none⟩ = some (.int .i64 a0q0) := k8_3_0
    have yk8_3_1 : w8.drew.cell? ⟨w7.heap.size, 1, none⟩ = some (.slice A7_1q0 k1q0 c7_1q0) := k8_3_1
    have hBz := hB8.size
    go_region_held3 (fun w' => w'.cell? ⟨w.heap.size, 0, none⟩ = some (.int .i64 a0p0) ∧ w'.cell? ⟨w.heap.size, 1, none⟩ = some (.slice (A1p0) n1p0 c1p0) ∧ w'.cell? ⟨w4.heap.size, 0, none⟩ = some (.int .i64 a0q0) ∧ w'.cell? ⟨w4.heap.size, 1, none⟩ = some (.slice A4_1q0 k1q0 c4_1q0) ∧ w'.cell? ⟨w5.heap.size, 0, none⟩ = some (.int .i64 a0p0) ∧ w'.cell? ⟨w5.heap.size, 1, none⟩ = some (.slice (some ⟨g5_1, 0, none⟩) n1p0 n1p0) ∧ w'.cell? ⟨w7.heap.size, 0, none⟩ = some (.int .i64 a0q0) ∧ w'.cell? ⟨w7.heap.size, 1, none⟩ = some (.slice A7_1q0 k1q0 c7_1q0)) (first | (with_reducible exact ⟨yk8_0_0, yk8_0_1, yk8_1_0, yk8_1_1, yk8_2_0, yk8_2_1, yk8_3_0, yk8_3_1⟩) | (with_reducible exact ⟨k8_0_0, k8_0_1, k8_1_0, k8_1_1, k8_2_0, k8_2_1, k8_3_0, k8_3_1⟩) | (go_split_ands; with_reducible exact ⟨kcl hv0 (by with_reducible assumption), kcl hv0 (by with_reducible assumption), kcl hv0 (by with_reducible assumption), kcl hv0 (by with_reducible assumption), kcl hv0 (by with_reducible assumption), kcl hv0 (by with_reducible assumption), kcl hv0 (by with_reducible assumption), kcl hv0 (by with_reducible assumption)⟩) | (go_split_ands; with_reducible exact ⟨kcl hv1 (by with_reducible assumption), kcl hv1 (by with_reducible assumption), kcl hv1 (by with_reducible assumption), kcl hv1 (by with_reducible assumption), kcl hv1 (by with_reducible assumption), kcl hv1 (by with_reducible assumption), kcl hv1 (by with_reducible assumption), kcl hv1 (by with_reducible assumption)⟩)) (first | (go_at_call 56; ((with_reducible refine (toCircuit (xs1 := xs1p0) ?_ HN1p0.out bn1p0).mono ?_); (exact HAA1p0.out.mono (by (repeat' (first | (with_reducible exact Below.refl _ _) | (with_reducible assumption) | (with_reducible refine Below.alloc ?_ ?_ _) | (with_reducible refine Below.drew ?_) | (with_reducible refine bdN ?_ _) | (with_reducible refine Below.setCell ?_ ?_ _) | (with_reducible refine chn ?_ (by assumption) ?_) | omega | (simp; done) | (simp; omega))))); rintro ee v0 ⟨g9, rfl, hK9, hg9, hv0⟩; have hq0 := hv0.size; (try simp only [World.size_drew, World.size_alloc] at hq0))) | (go_at_call 58; ((with_reducible refine (eqCircuit (xs1 := xs1p0) ?_ ?_ HN1p0.out bn1p0).mono ?_); (exact HX28.out.rd.mono (by (repeat' (first | (with_reducible exact Below.refl _ _) | (with_reducible assumption) | (with_reducible refine Below.alloc ?_ ?_ _) | (with_reducible refine Below.drew ?_) | (with_reducible refine bdN ?_ _) | (with_reducible refine Below.setCell ?_ ?_ _) | (with_reducible refine chn ?_ (by assumption) ?_) | omega | (simp; done) | (simp; omega))))); (exact hK9.rd); rintro ee v1 ⟨rfl, hv1⟩; have hq1 := hv1.size; (try simp only [World.size_drew, World.size_alloc] at hq1))))
    all_goals (go_wp2_with fail; go_meet)
    all_goals go_split_ands
    all_goals (refine ⟨rfl, (by with_reducible assumption), (by with_reducible assumption), (by with_reducible assumption), (by with_reducible assumption), (by with_reducible assumption), (by with_reducible assumption), (by with_reducible assumption), (by with_reducible assumption), (by exact HW1q08.out.mono (by (repeat' (first | (with_reducible exact Below.refl _ _) | (with_reducible assumption) | (with_reducible refine Below.alloc ?_ ?_ _) | (with_reducible refine Below.drew ?_) | (with_reducible refine bdN ?_ _) | (with_reducible refine Below.setCell ?_ ?_ _) | (with_reducible refine chn ?_ (by assumption) ?_) | omega | (simp; done) | (simp; omega))))), (by exact HX28.out.mono (by (repeat' (first | (with_reducible exact Below.refl _ _) | (with_reducible assumption) | (with_reducible refine Below.alloc ?_ ?_ _) | (with_reducible refine Below.drew ?_) | (with_reducible refine bdN ?_ _) | (with_reducible refine Below.setCell ?_ ?_ _) | (with_reducible refine chn ?_ (by assumption) ?_) | omega | (simp; done) | (simp; omega))))), (by exact HX38.out.mono (by (repeat' (first | (with_reducible exact Below.refl _ _) | (with_reducible assumption) | (with_reducible refine Below.alloc ?_ ?_ _) | (with_reducible refine Below.drew ?_) | (with_reducible refine bdN ?_ _) | (with_reducible refine Below.setCell ?_ ?_ _) | (with_reducible refine chn ?_ (by assumption) ?_) | omega | (simp; done) | (simp; omega))))), (by exact HG1q08.out.mono (by (repeat' (first | (with_reducible exact Below.refl _ _) | (with_reducible assumption) | (with_reducible refine Below.alloc ?_ ?_ _) | (with_reducible refine Below.drew ?_) | (with_reducible refine bdN ?_ _) | (with_reducible refine Below.setCell ?_ ?_ _) | (with_reducible refine chn ?_ (by assumption) ?_) | omega | (simp; done) | (simp; omega))))), (by (try simp only [World.size_alloc, World.size_drew, World.size_setCell]); omega), (by (repeat' (first | (with_reducible exact Below.refl _ _) | (with_reducible assumption) | (with_reducible refine Below.alloc ?_ ?_ _) | (with_reducible refine Below.drew ?_) | (with_reducible refine bdN ?_ _) | (with_reducible refine Below.setCell ?_ ?_ _) | (with_reducible refine chn ?_ (by assumption) ?_) | omega | (simp; done) | (simp; omega))))⟩)
  case rest =>
    obtain ⟨w9, rfl⟩ : ∃ w9, w9 = wc := ⟨_, rfl⟩
    clear k8_0_0 k8_0_1 k8_1_0 k8_1_1 k8_2_0 k8_2_1 k8_3_0 k8_3_1 HW1q08 HX28 HX38 HG1q08
    obtain ⟨rfl, k9_0_0, k9_0_1, k9_1_0, k9_1_1, k9_2_0, k9_2_1, k9_3_0, k9_3_1, HW1q09, HX29, HX39, HG1q09, hz9, hB9⟩ := hcut
    have bl9_0 : w.heap.size < w9.heap.size := World.block_lt_of_cell? _ _ k9_0_0
    have bl9_1 : w4.heap.size < w9.heap.size := World.block_lt_of_cell? _ _ k9_1_0
    have bl9_2 : w5.heap.size < w9.heap.size := World.block_lt_of_cell? _ _ k9_2_0
    have bl9_3 : w7.heap.size < w9.heap.size := World.block_lt_of_cell? _ _ k9_3_0
    go_wp2_with (fail)
    refine (toIntS (xs := xs1) ?_ HN1.out bn1).mono ?_
    · exact HAA1.out.mono (by (repeat' (first | (with_reducible exact Below.refl _ _) | (with_reducible assumption) | (with_reducible refine Below.alloc ?_ ?_ _) | (with_reducible refine Below.drew ?_) | (with_reducible refine bdN ?_ _) | (with_reducible refine Below.setCell ?_ ?_ _) | (with_reducible refine chn ?_ (by assumption) ?_) | omega | (simp; done) | (simp; omega))))
    rintro ee w10 ⟨rfl, hK10, hb10⟩
    have hL10 : Below w9.heap.size w9 w10 := by (repeat' (first | (with_reducible exact Below.refl _ _) | (with_reducible assumption) | (with_reducible refine Below.alloc ?_ ?_ _) | (with_reducible refine Below.drew ?_) | (with_reducible refine bdN ?_ _) | (with_reducible refine Below.setCell ?_ ?_ _) | (with_reducible refine chn ?_ (by assumption) ?_) | omega | (simp; done) | (simp; omega)))
    have hz10 := hb10.size
    (try simp only [World.size_alloc] at hz10)
    have hB10 : Below w.heap.size w w10 := chn hB9 hL10 hB9.size
    have k10_0_0 : w10.cell? ⟨w.heap.size, 0, none⟩ = some (.int .i64 a0p0) := (hL10.cell (p := ⟨w.heap.size, 0, none⟩) (by show w.heap.size < w9.heap.size; omega)).trans k9_0_0
    have k10_0_1 : w10.cell? ⟨w.heap.size, 1, none⟩ = some (.slice (A1p0) n1p0 c1p0) := (hL10.cell (p := ⟨w.heap.size, 1, none⟩) (by show w.heap.size < w9.heap.size; omega)).trans k9_0_1
    have k10_1_0 : w10.cell? ⟨w4.heap.size, 0, none⟩ = some (.int .i64 a0q0) := (hL10.cell (p := ⟨w4.heap.size, 0, none⟩) (by show w4.heap.size < w9.heap.size; omega)).trans k9_1_0
    have k10_1_1 : w10.cell? ⟨w4.heap.size, 1, none⟩ = some (.slice A4_1q0 k1q0 c4_1q0) := (hL10.cell (p := ⟨w4.heap.size, 1, none⟩) (by show w4.heap.size < w9.heap.size; omega)).trans k9_1_1
    have k10_2_0 : w10.cell? ⟨w5.heap.size, 0, none⟩ = some (.int .i64 a0p0) := (hL10.cell (p := ⟨w5.heap.size, 0, none⟩) (by show w5.heap.size < w9.heap.size; omega)).trans k9_2_0
    have k10_2_1 : w10.cell? ⟨w5.heap.size, 1, none⟩ = some (.slice (some ⟨g5_1, 0, none⟩) n1p0 n1p0) := (hL10.cell (p := ⟨w5.heap.size, 1, none⟩) (by show w5.heap.size < w9.heap.size; omega)).trans k9_2_1
    have k10_3_0 : w10.cell? ⟨w7.heap.size, 0, none⟩ = some (.int .i64 a0q0) := (hL10.cell (p := ⟨w7.heap.size, 0, none⟩) (by show w7.heap.size < w9.heap.size; omega)).trans k9_3_0
    have k10_3_1 : w10.cell? ⟨w7.heap.size, 1, none⟩ = some (.slice A7_1q0 k1q0 c7_1q0) := (hL10.cell (p := ⟨w7.heap.size, 1, none⟩) (by show w7.heap.size < w9.heap.size; omega)).trans k9_3_1
    have bl10_0 : w.heap.size < w10.heap.size := World.block_lt_of_cell? _ _ k10_0_0
    have bl10_1 : w4.heap.size < w10.heap.size := World.block_lt_of_cell? _ _ k10_1_0
    have bl10_2 : w5.heap.size < w10.heap.size := World.block_lt_of_cell? _ _ k10_2_0
    have bl10_3 : w7.heap.size < w10.heap.size := World.block_lt_of_cell? _ _ k10_3_0
    have HW1q010 := lay (HW1q09.out.mono hL10)
    have HX210 := lay (HX29.out.mono hL10)
    have HX310 := lay (HX39.out.mono hL10)
    have HG1q010 := lay (HG1q09.out.mono hL10)
    clear hb10 hL10
    clear k9_0_0 k9_0_1 k9_1_0 k9_1_1 k9_2_0 k9_2_1 k9_3_0 k9_3_1 HW1q09 HX29 HX39 HG1q09
    (try simp only [World.size_alloc] at hK10)
    have HR410 := lay hK10
    clear hK10
    go_wp2_with (fail)
    refine (eqIntS (xs := xs1) ?_ ?_ HN1.out bn1).mono ?_
    · exact HX310.out.rd.mono (by (repeat' (first | (with_reducible exact Below.refl _ _) | (with_reducible assumption) | (with_reducible refine Below.alloc ?_ ?_ _) | (with_reducible refine Below.drew ?_) | (with_reducible refine bdN ?_ _) | (with_reducible refine Below.setCell ?_ ?_ _) | (with_reducible refine chn ?_ (by assumption) ?_) | omega | (simp; done) | (simp; omega))))
    · exact HR410.out.rd.mono (by (repeat' (first | (with_reducible exact Below.refl _ _) | (with_reducible assumption) | (with_reducible refine Below.alloc ?_ ?_ _) | (with_reducible refine Below.drew ?_) | (with_reducible refine bdN ?_ _) | (with_reducible refine Below.setCell ?_ ?_ _) | (with_reducible refine chn ?_ (by assumption) ?_) | omega | (simp; done) | (simp; omega))))
    rintro ee w11 ⟨rfl, hb11⟩
    have hL11 : Below w10.heap.size w10 w11 := by (repeat' (first | (with_reducible exact Below.refl _ _) | (with_reducible assumption) | (with_reducible refine Below.alloc ?_ ?_ _) | (with_reducible refine Below.drew ?_) | (with_reducible refine bdN ?_ _) | (with_reducible refine Below.setCell ?_ ?_ _) | (with_reducible refine chn ?_ (by assumption) ?_) | omega | (simp; done) | (simp; omega)))
    have hz11 := hb11.size
    (try simp only [World.size_alloc] at hz11)
    have hB11 : Below w.heap.size w w11 := chn hB10 hL11 hB10.size
    have k11_0_0 : w11.cell? ⟨w.heap.size, 0, none⟩ = some (.int .i64 a0p0) := (hL11.cell (p := ⟨w.heap.size, 0, none⟩) (by show w.heap.size < w10.heap.size; omega)).trans k10_0_0
    have k11_0_1 : w11.cell? ⟨w.heap.size, 1, none⟩ = some (.slice (A1p0) n1p0 c1p0) := (hL11.cell (p := ⟨w.heap.size, 1, none⟩) (by show w.heap.size < w10.heap.size; omega)).trans k10_0_1
    have k11_1_0 : w11.cell? ⟨w4.heap.size, 0, none⟩ = some (.int .i64 a0q0) := (hL11.cell (p := ⟨w4.heap.size, 0, none⟩) (by show w4.heap.size < w10.heap.size; omega)).trans k10_1_0
    have k11_1_1 : w11.cell? ⟨w4.heap.size, 1, none⟩ = some (.slice A4_1q0 k1q0 c4_1q0) := (hL11.cell (p := ⟨w4.heap.size, 1, none⟩) (by show w4.heap.size < w10.heap.size; omega)).trans k10_1_1
    have k11_2_0 : w11.cell? ⟨w5.heap.size, 0, none⟩ = some (.int .i64 a0p0) := (hL11.cell (p := ⟨w5.heap.size, 0, none⟩) (by show w5.heap.size < w10.heap.size; omega)).trans k10_2_0
    have k11_2_1 : w11.cell? ⟨w5.heap.size, 1, none⟩ = some (.slice (some ⟨g5_1, 0, none⟩) n1p0 n1p0) := (hL11.cell (p := ⟨w5.heap.size, 1, none⟩) (by show w5.heap.size < w10.heap.size; omega)).trans k10_2_1
    have k11_3_0 : w11.cell? ⟨w7.heap.size, 0, none⟩ = some (.int .i64 a0q0) := (hL11.cell (p := ⟨w7.heap.size, 0, none⟩) (by show w7.heap.size < w10.heap.size; omega)).trans k10_3_0
    have k11_3_1 : w11.cell? ⟨w7.heap.size, 1, none⟩ = some (.slice A7_1q0 k1q0 c7_1q0) := (hL11.cell (p := ⟨w7.heap.size, 1, none⟩) (by show w7.heap.size < w10.heap.size; omega)).trans k10_3_1
    have bl11_0 : w.heap.size < w11.heap.size := World.block_lt_of_cell? _ _ k11_0_0
    have bl11_1 : w4.heap.size < w11.heap.size := World.block_lt_of_cell? _ _ k11_1_0
    have bl11_2 : w5.heap.size < w11.heap.size := World.block_lt_of_cell? _ _ k11_2_0
    have bl11_3 : w7.heap.size < w11.heap.size := World.block_lt_of_cell? _ _ k11_3_0
    have HW1q011 := lay (HW1q010.out.mono hL11)
    have HX211 := lay (HX210.out.mono hL11)
    have HX311 := lay (HX310.out.mono hL11)
    have HG1q011 := lay (HG1q010.out.mono hL11)
    have HR411 := lay (HR410.out.mono hL11)
    clear hb11 hL11
    clear k10_0_0 k10_0_1 k10_1_0 k10_1_1 k10_2_0 k10_2_1 k10_3_0 k10_3_1 HW1q010 HX210 HX310 HG1q010 HR410
    clear HR411
    go_wp2_with (fail)
    refine (markCircuit (B := w4.heap.size + 1) ?_ HN1p0.out bn1p0 (by decide) (by decide)).mono ?_
    · exact HX211.out
    rintro ee w12 ⟨rfl, hO12, hG12⟩
    have hz12 := hG12.size
    have hB12 : Below w.heap.size w w12 := Below.grown hB11 hG12 hB11.size (fun r hr => by have := hr_X2 r hr; omega)
    have k12_0_0 : w12.cell? ⟨w.heap.size, 0, none⟩ = some (.int .i64 a0p0) := hG12.cell k11_0_0 (fun e => by have := hr_X2 (w.heap.size) e.symm; omega)
    have k12_0_1 : w12.cell? ⟨w.heap.size, 1, none⟩ = some (.slice (A1p0) n1p0 c1p0) := hG12.cell k11_0_1 (fun e => by have := hr_X2 (w.heap.size) e.symm; omega)
    have k12_1_0 : w12.cell? ⟨w4.heap.size, 0, none⟩ = some (.int .i64 a0q0) := hG12.cell k11_1_0 (fun e => by have := hr_X2 (w4.heap.size) e.symm; omega)
    have k12_1_1 : w12.cell? ⟨w4.heap.size, 1, none⟩ = some (.slice A4_1q0 k1q0 c4_1q0) := hG12.cell k11_1_1 (fun e => by have := hr_X2 (w4.heap.size) e.symm; omega)
    have k12_2_0 : w12.cell? ⟨w5.heap.size, 0, none⟩ = some (.int .i64 a0p0) := hG12.cell k11_2_0 (fun e => by have := hr_X2 (w5.heap.size) e.symm; omega)
    have k12_2_1 : w12.cell? ⟨w5.heap.size, 1, none⟩ = some (.slice (some ⟨g5_1, 0, none⟩) n1p0 n1p0) := hG12.cell k11_2_1 (fun e => by have := hr_X2 (w5.heap.size) e.symm; omega)
    have k12_3_0 : w12.cell? ⟨w7.heap.size, 0, none⟩ = some (.int .i64 a0q0) := hG12.cell k11_3_0 (fun e => by have := hr_X2 (w7.heap.size) e.symm; omega)
    have k12_3_1 : w12.cell? ⟨w7.heap.size, 1, none⟩ = some (.slice A7_1q0 k1q0 c7_1q0) := hG12.cell k11_3_1 (fun e => by have := hr_X2 (w7.heap.size) e.symm; omega)
    have HW1q012 := lay (HW1q011.out.grown hG12 (fun r hr => by have := hr_X2 r hr; omega))
    have HX312 := lay (HX311.out.grown hG12 (fun r hr => by have := hr_X2 r hr; omega))
    have HG1q012 := lay (HG1q011.out.grown hG12 (fun r hr => by have := hr_X2 r hr; omega))
    have bl12_0 : w.heap.size < w12.heap.size := World.block_lt_of_cell? _ _ k12_0_0
    have bl12_1 : w4.heap.size < w12.heap.size := World.block_lt_of_cell? _ _ k12_1_0
    have bl12_2 : w5.heap.size < w12.heap.size := World.block_lt_of_cell? _ _ k12_2_0
    have bl12_3 : w7.heap.size < w12.heap.size := World.block_lt_of_cell? _ _ k12_3_0
    have HX212 := lay hO12
    clear hO12 hG12
    clear k11_0_0 k11_0_1 k11_1_0 k11_1_1 k11_2_0 k11_2_1 k11_3_0 k11_3_1 HW1q011 HX311 HG1q011 HX211
    clear HX212
    go_wp2_with (fail)
    refine (markIntS (B := w5.heap.size + 1) ?_ HN1.out bn1 vm0 wm0).mono ?_
    · exact HX312.out
    rintro ee w13 ⟨rfl, hO13, hG13⟩
    have hz13 := hG13.size
    have hB13 : Below w.heap.size w w13 := Below.grown hB12 hG13 hB12.size (fun r hr => by have := hr_X3 r hr; omega)
    have k13_0_0 : w13.cell? ⟨w.heap.size, 0, none⟩ = some (.int .i64 a0p0) := hG13.cell k12_0_0 (fun e => by have := hr_X3 (w.heap.size) e.symm; omega)
    have k13_0_1 : w13.cell? ⟨w.heap.size, 1, none⟩ = some (.slice (A1p0) n1p0 c1p0) := hG13.cell k12_0_1 (fun e => by have := hr_X3 (w.heap.size) e.symm; omega)
    have k13_1_0 : w13.cell? ⟨w4.heap.size, 0, none⟩ = some (.int .i64 a0q0) := hG13.cell k12_1_0 (fun e => by have := hr_X3 (w4.heap.size) e.symm; omega)
    have k13_1_1 : w13.cell? ⟨w4.heap.size, 1, none⟩ = some (.slice A4_1q0 k1q0 c4_1q0) := hG13.cell k12_1_1 (fun e => by have := hr_X3 (w4.heap.size) e.symm; omega)
    have k13_2_0 : w13.cell? ⟨w5.heap.size, 0, none⟩ = some (.int .i64 a0p0) := hG13.cell k12_2_0 (fun e => by have := hr_X3 (w5.heap.size) e.symm; omega)
    have k13_2_1 : w13.cell? ⟨w5.heap.size, 1, none⟩ = some (.slice (some ⟨g5_1, 0, none⟩) n1p0 n1p0) := hG13.cell k12_2_1 (fun e => by have := hr_X3 (w5.heap.size) e.symm; omega)
    have k13_3_0 : w13.cell? ⟨w7.heap.size, 0, none⟩ = some (.int .i64 a0q0) := hG13.cell k12_3_0 (fun e => by have := hr_X3 (w7.heap.size) e.symm; omega)
    have k13_3_1 : w13.cell? ⟨w7.heap.size, 1, none⟩ = some (.slice A7_1q0 k1q0 c7_1q0) := hG13.cell k12_3_1 (fun e => by have := hr_X3 (w7.heap.size) e.symm; omega)
    have HW1q013 := lay (HW1q012.out.grown hG13 (fun r hr => by have := hr_X3 r hr; omega))
    have HG1q013 := lay (HG1q012.out.grown hG13 (fun r hr => by have := hr_X3 r hr; omega))
    have bl13_0 : w.heap.size < w13.heap.size := World.block_lt_of_cell? _ _ k13_0_0
    have bl13_1 : w4.heap.size < w13.heap.size := World.block_lt_of_cell? _ _ k13_1_0
    have bl13_2 : w5.heap.size < w13.heap.size := World.block_lt_of_cell? _ _ k13_2_0
    have bl13_3 : w7.heap.size < w13.heap.size := World.block_lt_of_cell? _ _ k13_3_0
    have HX313 := lay hO13
    clear hO13 hG13
    clear k12_0_0 k12_0_1 k12_1_0 k12_1_1 k12_2_0 k12_2_1 k12_3_0 k12_3_1 HW1q012 HG1q012 HX312
    clear HX313
    go_wp2_with (fail)
    refine (eqCircuit (xs1 := zs1q0) ?_ ?_ HZ1q0.out hk1q0).mono ?_
    · exact HG1q013.out.rd.mono (by (repeat' (first | (with_reducible exact Below.refl _ _) | (with_reducible assumption) | (with_reducible refine Below.alloc ?_ ?_ _) | (with_reducible refine Below.drew ?_) | (with_reducible refine bdN ?_ _) | (with_reducible refine Below.setCell ?_ ?_ _) | (with_reducible refine chn ?_ (by assumption) ?_) | omega | (simp; done) | (simp; omega))))
    · exact HW1q013.out.rd.mono (by (repeat' (first | (with_reducible exact Below.refl _ _) | (with_reducible assumption) | (with_reducible refine Below.alloc ?_ ?_ _) | (with_reducible refine Below.drew ?_) | (with_reducible refine bdN ?_ _) | (with_reducible refine Below.setCell ?_ ?_ _) | (with_reducible refine chn ?_ (by assumption) ?_) | omega | (simp; done) | (simp; omega))))
    rintro ee w14 ⟨rfl, hb14⟩
    have hL14 : Below w13.heap.size w13 w14 := by (repeat' (first | (with_reducible exact Below.refl _ _) | (with_reducible assumption) | (with_reducible refine Below.alloc ?_ ?_ _) | (with_reducible refine Below.drew ?_) | (with_reducible refine bdN ?_ _) | (with_reducible refine Below.setCell ?_ ?_ _) | (with_reducible refine chn ?_ (by assumption) ?_) | omega | (simp; done) | (simp; omega)))
    have hz14 := hb14.size
    (try simp only [World.size_alloc] at hz14)
    have hB14 : Below w.heap.size w w14 := chn hB13 hL14 hB13.size
    have k14_0_0 : w14.cell? ⟨w.heap.size, 0, none⟩ = some (.int .i64 a0p0) := (hL14.cell (p := ⟨w.heap.size, 0, none⟩) (by show w.heap.size < w13.heap.size; omega)).trans k13_0_0
    have k14_0_1 : w14.cell? ⟨w.heap.size, 1, none⟩ = some (.slice (A1p0) n1p0 c1p0) := (hL14.cell (p := ⟨w.heap.size, 1, none⟩) (by show w.heap.size < w13.heap.size; omega)).trans k13_0_1
    have k14_1_0 : w14.cell? ⟨w4.heap.size, 0, none⟩ = some (.int .i64 a0q0) := (hL14.cell (p := ⟨w4.heap.size, 0, none⟩) (by show w4.heap.size < w13.heap.size; omega)).trans k13_1_0
    have k14_1_1 : w14.cell? ⟨w4.heap.size, 1, none⟩ = some (.slice A4_1q0 k1q0 c4_1q0) := (hL14.cell (p := ⟨w4.heap.size, 1, none⟩) (by show w4.heap.size < w13.heap.size; omega)).trans k13_1_1
    have k14_2_0 : w14.cell? ⟨w5.heap.size, 0, none⟩ = some (.int .i64 a0p0) := (hL14.cell (p := ⟨w5.heap.size, 0, none⟩) (by show w5.heap.size < w13.heap.size; omega)).trans k13_2_0
    have k14_2_1 : w14.cell? ⟨w5.heap.size, 1, none⟩ = some (.slice (some ⟨g5_1, 0, none⟩) n1p0 n1p0) := (hL14.cell (p := ⟨w5.heap.size, 1, none⟩) (by show w5.heap.size < w13.heap.size; omega)).trans k13_2_1
    have k14_3_0 : w14.cell? ⟨w7.heap.size, 0, none⟩ = some (.int .i64 a0q0) := (hL14.cell (p := ⟨w7.heap.size, 0, none⟩) (by show w7.heap.size < w13.heap.size; omega)).trans k13_3_0
    have k14_3_1 : w14.cell? ⟨w7.heap.size, 1, none⟩ = some (.slice A7_1q0 k1q0 c7_1q0) := (hL14.cell (p := ⟨w7.heap.size, 1, none⟩) (by show w7.heap.size < w13.heap.size; omega)).trans k13_3_1
    have bl14_0 : w.heap.size < w14.heap.size := World.block_lt_of_cell? _ _ k14_0_0
    have bl14_1 : w4.heap.size < w14.heap.size := World.block_lt_of_cell? _ _ k14_1_0
    have bl14_2 : w5.heap.size < w14.heap.size := World.block_lt_of_cell? _ _ k14_2_0
    have bl14_3 : w7.heap.size < w14.heap.size := World.block_lt_of_cell? _ _ k14_3_0
    have HW1q014 := lay (HW1q013.out.mono hL14)
    have HG1q014 := lay (HG1q013.out.mono hL14)
    clear hb14 hL14
    clear k13_0_0 k13_0_1 k13_1_0 k13_1_1 k13_2_0 k13_2_1 k13_3_0 k13_3_1 HW1q013 HG1q013
    go_wp2_with (fail)
    refine (markCircuit (B := w6.heap.size) ?_ HZ1q0.out hk1q0 (by decide) (by decide)).mono ?_
    · exact HG1q014.out
    rintro ee w15 ⟨rfl, hO15, hG15⟩
    have hz15 := hG15.size
    have hB15 : Below w.heap.size w w15 := Below.grown hB14 hG15 hB14.size (fun r hr => by have := hr_G1q0 r hr; omega)
    have k15_0_0 : w15.cell? ⟨w.heap.size, 0, none⟩ = some (.int .i64 a0p0) := hG15.cell k14_0_0 (fun e => by have := hr_G1q0 (w.heap.size) e.symm; omega)
    have k15_0_1 : w15.cell? ⟨w.heap.size, 1, none⟩ = some (.slice (A1p0) n1p0 c1p0) := hG15.cell k14_0_1 (fun e => by have := hr_G1q0 (w.heap.size) e.symm; omega)
    have k15_1_0 : w15.cell? ⟨w4.heap.size, 0, none⟩ = some (.int .i64 a0q0) := hG15.cell k14_1_0 (fun e => by have := hr_G1q0 (w4.heap.size) e.symm; omega)
    have k15_1_1 : w15.cell? ⟨w4.heap.size, 1, none⟩ = some (.slice A4_1q0 k1q0 c4_1q0) := hG15.cell k14_1_1 (fun e => by have := hr_G1q0 (w4.heap.size) e.symm; omega)
    have k15_2_0 : w15.cell? ⟨w5.heap.size, 0, none⟩ = some (.int .i64 a0p0) := hG15.cell k14_2_0 (fun e => by have := hr_G1q0 (w5.heap.size) e.symm; omega)
    have k15_2_1 : w15.cell? ⟨w5.heap.size, 1, none⟩ = some (.slice (some ⟨g5_1, 0, none⟩) n1p0 n1p0) := hG15.cell k14_2_1 (fun e => by have := hr_G1q0 (w5.heap.size) e.symm; omega)
    have k15_3_0 : w15.cell? ⟨w7.heap.size, 0, none⟩ = some (.int .i64 a0q0) := hG15.cell k14_3_0 (fun e => by have := hr_G1q0 (w7.heap.size) e.symm; omega)
    have k15_3_1 : w15.cell? ⟨w7.heap.size, 1, none⟩ = some (.slice A7_1q0 k1q0 c7_1q0) := hG15.cell k14_3_1 (fun e => by have := hr_G1q0 (w7.heap.size) e.symm; omega)
    have HW1q015 := lay (HW1q014.out.grown hG15 (fun r hr => by have := hr_G1q0 r hr; omega))
    have bl15_0 : w.heap.size < w15.heap.size := World.block_lt_of_cell? _ _ k15_0_0
    have bl15_1 : w4.heap.size < w15.heap.size := World.block_lt_of_cell? _ _ k15_1_0
    have bl15_2 : w5.heap.size < w15.heap.size := World.block_lt_of_cell? _ _ k15_2_0
    have bl15_3 : w7.heap.size < w15.heap.size := World.block_lt_of_cell? _ _ k15_3_0
    have HG1q015 := lay hO15
    clear hO15 hG15
    clear k14_0_0 k14_0_1 k14_1_0 k14_1_1 k14_2_0 k14_2_1 k14_3_0 k14_3_1 HW1q014 HG1q014
    go_wp2_with (fail)
    refine (heldCircuit ?_ hk1q0 (by decide) (by decide)).mono ?_
    · exact HG1q015.out.rd.mono (by (repeat' (first | (with_reducible exact Below.refl _ _) | (with_reducible assumption) | (with_reducible refine Below.alloc ?_ ?_ _) | (with_reducible refine Below.drew ?_) | (with_reducible refine bdN ?_ _) | (with_reducible refine Below.setCell ?_ ?_ _) | (with_reducible refine chn ?_ (by assumption) ?_) | omega | (simp; done) | (simp; omega))))
    rintro ee w16 ⟨rfl, hb16⟩
    have hL16 : Below w15.heap.size w15 w16 := by (repeat' (first | (with_reducible exact Below.refl _ _) | (with_reducible assumption) | (with_reducible refine Below.alloc ?_ ?_ _) | (with_reducible refine Below.drew ?_) | (with_reducible refine bdN ?_ _) | (with_reducible refine Below.setCell ?_ ?_ _) | (with_reducible refine chn ?_ (by assumption) ?_) | omega | (simp; done) | (simp; omega)))
    have hz16 := hb16.size
    (try simp only [World.size_alloc] at hz16)
    have hB16 : Below w.heap.size w w16 := chn hB15 hL16 hB15.size
    have k16_0_0 : w16.cell? ⟨w.heap.size, 0, none⟩ = some (.int .i64 a0p0) := (hL16.cell (p := ⟨w.heap.size, 0, none⟩) (by show w.heap.size < w15.heap.size; omega)).trans k15_0_0
    have k16_0_1 : w16.cell? ⟨w.heap.size, 1, none⟩ = some (.slice (A1p0) n1p0 c1p0) := (hL16.cell (p := ⟨w.heap.size, 1, none⟩) (by show w.heap.size < w15.heap.size; omega)).trans k15_0_1
    have k16_1_0 : w16.cell? ⟨w4.heap.size, 0, none⟩ = some (.int .i64 a0q0) := (hL16.cell (p := ⟨w4.heap.size, 0, none⟩) (by show w4.heap.size < w15.heap.size; omega)).trans k15_1_0
    have k16_1_1 : w16.cell? ⟨w4.heap.size, 1, none⟩ = some (.slice A4_1q0 k1q0 c4_1q0) := (hL16.cell (p := ⟨w4.heap.size, 1, none⟩) (by show w4.heap.size < w15.heap.size; omega)).trans k15_1_1
    have k16_2_0 : w16.cell? ⟨w5.heap.size, 0, none⟩ = some (.int .i64 a0p0) := (hL16.cell (p := ⟨w5.heap.size, 0, none⟩) (by show w5.heap.size < w15.heap.size; omega)).trans k15_2_0
    have k16_2_1 : w16.cell? ⟨w5.heap.size, 1, none⟩ = some (.slice (some ⟨g5_1, 0, none⟩) n1p0 n1p0) := (hL16.cell (p := ⟨w5.heap.size, 1, none⟩) (by show w5.heap.size < w15.heap.size; omega)).trans k15_2_1
    have k16_3_0 : w16.cell? ⟨w7.heap.size, 0, none⟩ = some (.int .i64 a0q0) := (hL16.cell (p := ⟨w7.heap.size, 0, none⟩) (by show w7.heap.size < w15.heap.size; omega)).trans k15_3_0
    have k16_3_1 : w16.cell? ⟨w7.heap.size, 1, none⟩ = some (.slice A7_1q0 k1q0 c7_1q0) := (hL16.cell (p := ⟨w7.heap.size, 1, none⟩) (by show w7.heap.size < w15.heap.size; omega)).trans k15_3_1
    have bl16_0 : w.heap.size < w16.heap.size := World.block_lt_of_cell? _ _ k16_0_0
    have bl16_1 : w4.heap.size < w16.heap.size := World.block_lt_of_cell? _ _ k16_1_0
    have bl16_2 : w5.heap.size < w16.heap.size := World.block_lt_of_cell? _ _ k16_2_0
    have bl16_3 : w7.heap.size < w16.heap.size := World.block_lt_of_cell? _ _ k16_3_0
    have HW1q016 := lay (HW1q015.out.mono hL16)
    have HG1q016 := lay (HG1q015.out.mono hL16)
    clear hb16 hL16
    clear k15_0_0 k15_0_1 k15_1_0 k15_1_1 k15_2_0 k15_2_1 k15_3_0 k15_3_1 HW1q015 HG1q015
    go_wp2_with (fail)
    refine (toCircuit ?_ HN1p0.out bn1p0 ).mono ?_
    · exact HAA1p0.out.mono (by (repeat' (first | (with_reducible exact Below.refl _ _) | (with_reducible assumption) | (with_reducible refine Below.alloc ?_ ?_ _) | (with_reducible refine Below.drew ?_) | (with_reducible refine bdN ?_ _) | (with_reducible refine Below.setCell ?_ ?_ _) | (with_reducible refine chn ?_ (by assumption) ?_) | omega | (simp; done) | (simp; omega))))
    rintro ee w17 ⟨g17_1, rfl, hK17_1, hg17_1, hb17⟩
    have hL17 : Below w16.heap.size w16 w17 := by (repeat' (first | (with_reducible exact Below.refl _ _) | (with_reducible assumption) | (with_reducible refine Below.alloc ?_ ?_ _) | (with_reducible refine Below.drew ?_) | (with_reducible refine bdN ?_ _) | (with_reducible refine Below.setCell ?_ ?_ _) | (with_reducible refine chn ?_ (by assumption) ?_) | omega | (simp; done) | (simp; omega)))
    have hz17 := hb17.size
    (try simp only [World.size_alloc] at hz17)
    have hB17 : Below w.heap.size w w17 := chn hB16 hL17 hB16.size
    have k17_0_0 : w17.cell? ⟨w.heap.size, 0, none⟩ = some (.int .i64 a0p0) := (hL17.cell (p := ⟨w.heap.size, 0, none⟩) (by show w.heap.size < w16.heap.size; omega)).trans k16_0_0
    have k17_0_1 : w17.cell? ⟨w.heap.size, 1, none⟩ = some (.slice (A1p0) n1p0 c1p0) := (hL17.cell (p := ⟨w.heap.size, 1, none⟩) (by show w.heap.size < w16.heap.size; omega)).trans k16_0_1
    have k17_1_0 : w17.cell? ⟨w4.heap.size, 0, none⟩ = some (.int .i64 a0q0) := (hL17.cell (p := ⟨w4.heap.size, 0, none⟩) (by show w4.heap.size < w16.heap.size; omega)).trans k16_1_0
    have k17_1_1 : w17.cell? ⟨w4.heap.size, 1, none⟩ = some (.slice A4_1q0 k1q0 c4_1q0) := (hL17.cell (p := ⟨w4.heap.size, 1, none⟩) (by show w4.heap.size < w16.heap.size; omega)).trans k16_1_1
    have k17_2_0 : w17.cell? ⟨w5.heap.size, 0, none⟩ = some (.int .i64 a0p0) := (hL17.cell (p := ⟨w5.heap.size, 0, none⟩) (by show w5.heap.size < w16.heap.size; omega)).trans k16_2_0
    have k17_2_1 : w17.cell? ⟨w5.heap.size, 1, none⟩ = some (.slice (some ⟨g5_1, 0, none⟩) n1p0 n1p0) := (hL17.cell (p := ⟨w5.heap.size, 1, none⟩) (by show w5.heap.size < w16.heap.size; omega)).trans k16_2_1
    have k17_3_0 : w17.cell? ⟨w7.heap.size, 0, none⟩ = some (.int .i64 a0q0) := (hL17.cell (p := ⟨w7.heap.size, 0, none⟩) (by show w7.heap.size < w16.heap.size; omega)).trans k16_3_0
    have k17_3_1 : w17.cell? ⟨w7.heap.size, 1, none⟩ = some (.slice A7_1q0 k1q0 c7_1q0) := (hL17.cell (p := ⟨w7.heap.size, 1, none⟩) (by show w7.heap.size < w16.heap.size; omega)).trans k16_3_1
    have bl17_0 : w.heap.size < w17.heap.size := World.block_lt_of_cell? _ _ k17_0_0
    have bl17_1 : w4.heap.size < w17.heap.size := World.block_lt_of_cell? _ _ k17_1_0
    have bl17_2 : w5.heap.size < w17.heap.size := World.block_lt_of_cell? _ _ k17_2_0
    have bl17_3 : w7.heap.size < w17.heap.size := World.block_lt_of_cell? _ _ k17_3_0
    have HW1q017 := lay (HW1q016.out.mono hL17)
    have HG1q017 := lay (HG1q016.out.mono hL17)
    clear hb17 hL17
    clear k16_0_0 k16_0_1 k16_1_0 k16_1_1 k16_2_0 k16_2_1 k16_3_0 k16_3_1 HW1q016 HG1q016
    (try simp only [World.size_alloc] at hg17_1)
    have HR517 := lay hK17_1
    clear hK17_1
    go_wp2_with (fail)
    refine (toIntS (xs := xs1) ?_ HN1.out bn1).mono ?_
    · exact HAA1.out.mono (by (repeat' (first | (with_reducible exact Below.refl _ _) | (with_reducible assumption) | (with_reducible refine Below.alloc ?_ ?_ _) | (with_reducible refine Below.drew ?_) | (with_reducible refine bdN ?_ _) | (with_reducible refine Below.setCell ?_ ?_ _) | (with_reducible refine chn ?_ (by assumption) ?_) | omega | (simp; done) | (simp; omega))))
    rintro ee w18 ⟨rfl, hK18, hb18⟩
    have hL18 : Below w17.heap.size w17 w18 := by (repeat' (first | (with_reducible exact Below.refl _ _) | (with_reducible assumption) | (with_reducible refine Below.alloc ?_ ?_ _) | (with_reducible refine Below.drew ?_) | (with_reducible refine bdN ?_ _) | (with_reducible refine Below.setCell ?_ ?_ _) | (with_reducible refine chn ?_ (by assumption) ?_) | omega | (simp; done) | (simp; omega)))
    have hz18 := hb18.size
    (try simp only [World.size_alloc] at hz18)
    have hB18 : Below w.heap.size w w18 := chn hB17 hL18 hB17.size
    have k18_0_0 : w18.cell? ⟨w.heap.size, 0, none⟩ = some (.int .i64 a0p0) := (hL18.cell (p := ⟨w.heap.size, 0, none⟩) (by show w.heap.size < w17.heap.size; omega)).trans k17_0_0
    have k18_0_1 : w18.cell? ⟨w.heap.size, 1, none⟩ = some (.slice (A1p0) n1p0 c1p0) := (hL18.cell (p := ⟨w.heap.size, 1, none⟩) (by show w.heap.size < w17.heap.size; omega)).trans k17_0_1
    have k18_1_0 : w18.cell? ⟨w4.heap.size, 0, none⟩ = some (.int .i64 a0q0) := (hL18.cell (p := ⟨w4.heap.size, 0, none⟩) (by show w4.heap.size < w17.heap.size; omega)).trans k17_1_0
    have k18_1_1 : w18.cell? ⟨w4.heap.size, 1, none⟩ = some (.slice A4_1q0 k1q0 c4_1q0) := (hL18.cell (p := ⟨w4.heap.size, 1, none⟩) (by show w4.heap.size < w17.heap.size; omega)).trans k17_1_1
    have k18_2_0 : w18.cell? ⟨w5.heap.size, 0, none⟩ = some (.int .i64 a0p0) := (hL18.cell (p := ⟨w5.heap.size, 0, none⟩) (by show w5.heap.size < w17.heap.size; omega)).trans k17_2_0
    have k18_2_1 : w18.cell? ⟨w5.heap.size, 1, none⟩ = some (.slice (some ⟨g5_1, 0, none⟩) n1p0 n1p0) := (hL18.cell (p := ⟨w5.heap.size, 1, none⟩) (by show w5.heap.size < w17.heap.size; omega)).trans k17_2_1
    have k18_3_0 : w18.cell? ⟨w7.heap.size, 0, none⟩ = some (.int .i64 a0q0) := (hL18.cell (p := ⟨w7.heap.size, 0, none⟩) (by show w7.heap.size < w17.heap.size; omega)).trans k17_3_0
    have k18_3_1 : w18.cell? ⟨w7.heap.size, 1, none⟩ = some (.slice A7_1q0 k1q0 c7_1q0) := (hL18.cell (p := ⟨w7.heap.size, 1, none⟩) (by show w7.heap.size < w17.heap.size; omega)).trans k17_3_1
    have bl18_0 : w.heap.size < w18.heap.size := World.block_lt_of_cell? _ _ k18_0_0
    have bl18_1 : w4.heap.size < w18.heap.size := World.block_lt_of_cell? _ _ k18_1_0
    have bl18_2 : w5.heap.size < w18.heap.size := World.block_lt_of_cell? _ _ k18_2_0
    have bl18_3 : w7.heap.size < w18.heap.size := World.block_lt_of_cell? _ _ k18_3_0
    have HW1q018 := lay (HW1q017.out.mono hL18)
    have HG1q018 := lay (HG1q017.out.mono hL18)
    have HR518 := lay (HR517.out.mono hL18)
    clear hb18 hL18
    clear k17_0_0 k17_0_1 k17_1_0 k17_1_1 k17_2_0 k17_2_1 k17_3_0 k17_3_1 HW1q017 HG1q017 HR517
    (try simp only [World.size_alloc] at hK18)
    have HR618 := lay hK18
    clear hK18
    go_wp2_with (fail)
    refine (HI.out _ _ _ ?_ ?_).mono ?_
    · exact HR518.out.rd.mono (by (repeat' (first | (with_reducible exact Below.refl _ _) | (with_reducible assumption) | (with_reducible refine Below.alloc ?_ ?_ _) | (with_reducible refine Below.drew ?_) | (with_reducible refine bdN ?_ _) | (with_reducible refine Below.setCell ?_ ?_ _) | (with_reducible refine chn ?_ (by assumption) ?_) | omega | (simp; done) | (simp; omega))))
    · exact HR618.out.rd.mono (by (repeat' (first | (with_reducible exact Below.refl _ _) | (with_reducible assumption) | (with_reducible refine Below.alloc ?_ ?_ _) | (with_reducible refine Below.drew ?_) | (with_reducible refine bdN ?_ _) | (with_reducible refine Below.setCell ?_ ?_ _) | (with_reducible refine chn ?_ (by assumption) ?_) | omega | (simp; done) | (simp; omega))))
    rintro ee w19 ⟨A19_1q0, c19_1q0, rfl, hO19_1q0, hb19⟩
    have hL19 : Below w18.heap.size w18 w19 := by (repeat' (first | (with_reducible exact Below.refl _ _) | (with_reducible assumption) | (with_reducible refine Below.alloc ?_ ?_ _) | (with_reducible refine Below.drew ?_) | (with_reducible refine bdN ?_ _) | (with_reducible refine Below.setCell ?_ ?_ _) | (with_reducible refine chn ?_ (by assumption) ?_) | omega | (simp; done) | (simp; omega)))
    have hz19 := hb19.size
    (try simp only [World.size_alloc] at hz19)
    have hB19 : Below w.heap.size w w19 := chn hB18 hL19 hB18.size
    have k19_0_0 : w19.cell? ⟨w.heap.size, 0, none⟩ = some (.int .i64 a0p0) := (hL19.cell (p := ⟨w.heap.size, 0, none⟩) (by show w.heap.size < w18.heap.size; omega)).trans k18_0_0
    have k19_0_1 : w19.cell? ⟨w.heap.size, 1, none⟩ = some (.slice (A1p0) n1p0 c1p0) := (hL19.cell (p := ⟨w.heap.size, 1, none⟩) (by show w.heap.size < w18.heap.size; omega)).trans k18_0_1
    have k19_1_0 : w19.cell? ⟨w4.heap.size, 0, none⟩ = some (.int .i64 a0q0) := (hL19.cell (p := ⟨w4.heap.size, 0, none⟩) (by show w4.heap.size < w18.heap.size; omega)).trans k18_1_0
    have k19_1_1 : w19.cell? ⟨w4.heap.size, 1, none⟩ = some (.slice A4_1q0 k1q0 c4_1q0) := (hL19.cell (p := ⟨w4.heap.size, 1, none⟩) (by show w4.heap.size < w18.heap.size; omega)).trans k18_1_1
    have k19_2_0 : w19.cell? ⟨w5.heap.size, 0, none⟩ = some (.int .i64 a0p0) := (hL19.cell (p := ⟨w5.heap.size, 0, none⟩) (by show w5.heap.size < w18.heap.size; omega)).trans k18_2_0
    have k19_2_1 : w19.cell? ⟨w5.heap.size, 1, none⟩ = some (.slice (some ⟨g5_1, 0, none⟩) n1p0 n1p0) := (hL19.cell (p := ⟨w5.heap.size, 1, none⟩) (by show w5.heap.size < w18.heap.size; omega)).trans k18_2_1
    have k19_3_0 : w19.cell? ⟨w7.heap.size, 0, none⟩ = some (.int .i64 a0q0) := (hL19.cell (p := ⟨w7.heap.size, 0, none⟩) (by show w7.heap.size < w18.heap.size; omega)).trans k18_3_0
    have k19_3_1 : w19.cell? ⟨w7.heap.size, 1, none⟩ = some (.slice A7_1q0 k1q0 c7_1q0) := (hL19.cell (p := ⟨w7.heap.size, 1, none⟩) (by show w7.heap.size < w18.heap.size; omega)).trans k18_3_1
    have bl19_0 : w.heap.size < w19.heap.size := World.block_lt_of_cell? _ _ k19_0_0
    have bl19_1 : w4.heap.size < w19.heap.size := World.block_lt_of_cell? _ _ k19_1_0
    have bl19_2 : w5.heap.size < w19.heap.size := World.block_lt_of_cell? _ _ k19_2_0
    have bl19_3 : w7.heap.size < w19.heap.size := World.block_lt_of_cell? _ _ k19_3_0
    have HW1q019 := lay (HW1q018.out.mono hL19)
    have HG1q019 := lay (HG1q018.out.mono hL19)
    have HR519 := lay (HR518.out.mono hL19)
    have HR619 := lay (HR618.out.mono hL19)
    clear hb19 hL19
    clear k18_0_0 k18_0_1 k18_1_0 k18_1_1 k18_2_0 k18_2_1 k18_3_0 k18_3_1 HW1q018 HG1q018 HR518 HR618
    clear HR519
    clear HR619
    (try simp only [World.size_alloc] at hO19_1q0)
    have HH1q019 : Hid (RdB gateE w19 w19.heap.size A19_1q0 zs1q0) := hO19_1q0.rd.b (Nat.le_refl _)
    clear hO19_1q0
    go_wp2_with (fail)
    refine (eqCircuit (xs1 := zs1q0) ?_ ?_ HZ1q0.out hk1q0).mono ?_
    · exact HH1q019.out.rd.mono (by (repeat' (first | (with_reducible exact Below.refl _ _) | (with_reducible assumption) | (with_reducible refine Below.alloc ?_ ?_ _) | (with_reducible refine Below.drew ?_) | (with_reducible refine bdN ?_ _) | (with_reducible refine Below.setCell ?_ ?_ _) | (with_reducible refine chn ?_ (by assumption) ?_) | omega | (simp; done) | (simp; omega))))
    · exact HW1q019.out.rd.mono (by (repeat' (first | (with_reducible exact Below.refl _ _) | (with_reducible assumption) | (with_reducible refine Below.alloc ?_ ?_ _) | (with_reducible refine Below.drew ?_) | (with_reducible refine bdN ?_ _) | (with_reducible refine Below.setCell ?_ ?_ _) | (with_reducible refine chn ?_ (by assumption) ?_) | omega | (simp; done) | (simp; omega))))
    rintro ee w20 ⟨rfl, hb20⟩
    have hL20 : Below w19.heap.size w19 w20 := by (repeat' (first | (with_reducible exact Below.refl _ _) | (with_reducible assumption) | (with_reducible refine Below.alloc ?_ ?_ _) | (with_reducible refine Below.drew ?_) | (with_reducible refine bdN ?_ _) | (with_reducible refine Below.setCell ?_ ?_ _) | (with_reducible refine chn ?_ (by assumption) ?_) | omega | (simp; done) | (simp; omega)))
    have hz20 := hb20.size
    (try simp only [World.size_alloc] at hz20)
    have hB20 : Below w.heap.size w w20 := chn hB19 hL20 hB19.size
    have k20_0_0 : w20.cell? ⟨w.heap.size, 0, none⟩ = some (.int .i64 a0p0) := (hL20.cell (p := ⟨w.heap.size, 0, none⟩) (by show w.heap.size < w19.heap.size; omega)).trans k19_0_0
    have k20_0_1 : w20.cell? ⟨w.heap.size, 1, none⟩ = some (.slice (A1p0) n1p0 c1p0) := (hL20.cell (p := ⟨w.heap.size, 1, none⟩) (by show w.heap.size < w19.heap.size; omega)).trans k19_0_1
    have k20_1_0 : w20.cell? ⟨w4.heap.size, 0, none⟩ = some (.int .i64 a0q0) := (hL20.cell (p := ⟨w4.heap.size, 0, none⟩) (by show w4.heap.size < w19.heap.size; omega)).trans k19_1_0
    have k20_1_1 : w20.cell? ⟨w4.heap.size, 1, none⟩ = some (.slice A4_1q0 k1q0 c4_1q0) := (hL20.cell (p := ⟨w4.heap.size, 1, none⟩) (by show w4.heap.size < w19.heap.size; omega)).trans k19_1_1
    have k20_2_0 : w20.cell? ⟨w5.heap.size, 0, none⟩ = some (.int .i64 a0p0) := (hL20.cell (p := ⟨w5.heap.size, 0, none⟩) (by show w5.heap.size < w19.heap.size; omega)).trans k19_2_0
    have k20_2_1 : w20.cell? ⟨w5.heap.size, 1, none⟩ = some (.slice (some ⟨g5_1, 0, none⟩) n1p0 n1p0) := (hL20.cell (p := ⟨w5.heap.size, 1, none⟩) (by show w5.heap.size < w19.heap.size; omega)).trans k19_2_1
    have k20_3_0 : w20.cell? ⟨w7.heap.size, 0, none⟩ = some (.int .i64 a0q0) := (hL20.cell (p := ⟨w7.heap.size, 0, none⟩) (by show w7.heap.size < w19.heap.size; omega)).trans k19_3_0
    have k20_3_1 : w20.cell? ⟨w7.heap.size, 1, none⟩ = some (.slice A7_1q0 k1q0 c7_1q0) := (hL20.cell (p := ⟨w7.heap.size, 1, none⟩) (by show w7.heap.size < w19.heap.size; omega)).trans k19_3_1
    have k20_4_0 : w20.cell? ⟨w19.heap.size, 0, none⟩ = some (.int .i64 a0q0) := (hb20.cell (p := ⟨w19.heap.size, 0, none⟩) (by show w19.heap.size < _; (try simp only [World.size_alloc]); omega)).trans (by first | rfl | (simp; done) | (simp [*]; done))
    have k20_4_1 : w20.cell? ⟨w19.heap.size, 1, none⟩ = some (.slice A19_1q0 k1q0 c19_1q0) := (hb20.cell (p := ⟨w19.heap.size, 1, none⟩) (by show w19.heap.size < _; (try simp only [World.size_alloc]); omega)).trans (by first | rfl | (simp; done) | (simp [*]; done))
    have bl20_0 : w.heap.size < w20.heap.size := World.block_lt_of_cell? _ _ k20_0_0
    have bl20_1 : w4.heap.size < w20.heap.size := World.block_lt_of_cell? _ _ k20_1_0
    have bl20_2 : w5.heap.size < w20.heap.size := World.block_lt_of_cell? _ _ k20_2_0
    have bl20_3 : w7.heap.size < w20.heap.size := World.block_lt_of_cell? _ _ k20_3_0
    have bl20_4 : w19.heap.size < w20.heap.size := World.block_lt_of_cell? _ _ k20_4_0
    have HW1q020 := lay (HW1q019.out.mono hL20)
    have HG1q020 := lay (HG1q019.out.mono hL20)
    have HH1q020 := lay (HH1q019.out.mono hL20)
    clear hb20 hL20
    clear k19_0_0 k19_0_1 k19_1_0 k19_1_1 k19_2_0 k19_2_1 k19_3_0 k19_3_1 HW1q019 HG1q019 HH1q019
    go_wp2_with (fail)
    refine (heldCircuit ?_ hk1q0 (by decide) (by decide)).mono ?_
    · exact HG1q020.out.rd.mono (by (repeat' (first | (with_reducible exact Below.refl _ _) | (with_reducible assumption) | (with_reducible refine Below.alloc ?_ ?_ _) | (with_reducible refine Below.drew ?_) | (with_reducible refine bdN ?_ _) | (with_reducible refine Below.setCell ?_ ?_ _) | (with_reducible refine chn ?_ (by assumption) ?_) | omega | (simp; done) | (simp; omega))))
    rintro ee w21 ⟨rfl, hb21⟩
    have hL21 : Below w20.heap.size w20 w21 := by (repeat' (first | (with_reducible exact Below.refl _ _) | (with_reducible assumption) | (with_reducible refine Below.alloc ?_ ?_ _) | (with_reducible refine Below.drew ?_) | (with_reducible refine bdN ?_ _) | (with_reducible refine Below.setCell ?_ ?_ _) | (with_reducible refine chn ?_ (by assumption) ?_) | omega | (simp; done) | (simp; omega)))
    have hz21 := hb21.size
    (try simp only [World.size_alloc] at hz21)
    have hB21 : Below w.heap.size w w21 := chn hB20 hL21 hB20.size
    have k21_0_0 : w21.cell? ⟨w.heap.size, 0, none⟩ = some (.int .i64 a0p0) := (hL21.cell (p := ⟨w.heap.size, 0, none⟩) (by show w.heap.size < w20.heap.size; omega)).trans k20_0_0
    have k21_0_1 : w21.cell? ⟨w.heap.size, 1, none⟩ = some (.slice (A1p0) n1p0 c1p0) := (hL21.cell (p := ⟨w.heap.size, 1, none⟩) (by show w.heap.size < w20.heap.size; omega)).trans k20_0_1
    have k21_1_0 : w21.cell? ⟨w4.heap.size, 0, none⟩ = some (.int .i64 a0q0) := (hL21.cell (p := ⟨w4.heap.size, 0, none⟩) (by show w4.heap.size < w20.heap.size; omega)).trans k20_1_0
    have k21_1_1 : w21.cell? ⟨w4.heap.size, 1, none⟩ = some (.slice A4_1q0 k1q0 c4_1q0) := (hL21.cell (p := ⟨w4.heap.size, 1, none⟩) (by show w4.heap.size < w20.heap.size; omega)).trans k20_1_1
    have k21_2_0 : w21.cell? ⟨w5.heap.size, 0, none⟩ = some (.int .i64 a0p0) := (hL21.cell (p := ⟨w5.heap.size, 0, none⟩) (by show w5.heap.size < w20.heap.size; omega)).trans k20_2_0
    have k21_2_1 : w21.cell? ⟨w5.heap.size, 1, none⟩ = some (.slice (some ⟨g5_1, 0, none⟩) n1p0 n1p0) := (hL21.cell (p := ⟨w5.heap.size, 1, none⟩) (by show w5.heap.size < w20.heap.size; omega)).trans k20_2_1
    have k21_3_0 : w21.cell? ⟨w7.heap.size, 0, none⟩ = some (.int .i64 a0q0) := (hL21.cell (p := ⟨w7.heap.size, 0, none⟩) (by show w7.heap.size < w20.heap.size; omega)).trans k20_3_0
    have k21_3_1 : w21.cell? ⟨w7.heap.size, 1, none⟩ = some (.slice A7_1q0 k1q0 c7_1q0) := (hL21.cell (p := ⟨w7.heap.size, 1, none⟩) (by show w7.heap.size < w20.heap.size; omega)).trans k20_3_1
    have k21_4_0 : w21.cell? ⟨w19.heap.size, 0, none⟩ = some (.int .i64 a0q0) := (hL21.cell (p := ⟨w19.heap.size, 0, none⟩) (by show w19.heap.size < w20.heap.size; omega)).trans k20_4_0
    have k21_4_1 : w21.cell? ⟨w19.heap.size, 1, none⟩ = some (.slice A19_1q0 k1q0 c19_1q0) := (hL21.cell (p := ⟨w19.heap.size, 1, none⟩) (by show w19.heap.size < w20.heap.size; omega)).trans k20_4_1
    have bl21_0 : w.heap.size < w21.heap.size := World.block_lt_of_cell? _ _ k21_0_0
    have bl21_1 : w4.heap.size < w21.heap.size := World.block_lt_of_cell? _ _ k21_1_0
    have bl21_2 : w5.heap.size < w21.heap.size := World.block_lt_of_cell? _ _ k21_2_0
    have bl21_3 : w7.heap.size < w21.heap.size := World.block_lt_of_cell? _ _ k21_3_0
    have bl21_4 : w19.heap.size < w21.heap.size := World.block_lt_of_cell? _ _ k21_4_0
    have HW1q021 := lay (HW1q020.out.mono hL21)
    have HG1q021 := lay (HG1q020.out.mono hL21)
    have HH1q021 := lay (HH1q020.out.mono hL21)
    clear hb21 hL21
    clear k20_0_0 k20_0_1 k20_1_0 k20_1_1 k20_2_0 k20_2_1 k20_3_0 k20_3_1 k20_4_0 k20_4_1 HW1q020 HG1q020 HH1q020
    go_wp2_with (fail)
    go_ret
    exact ⟨rfl, hB21⟩

end Go.Proofs.Ytfbffncbdddemaa
