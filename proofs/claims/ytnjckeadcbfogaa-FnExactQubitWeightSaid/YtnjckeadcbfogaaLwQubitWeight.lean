/- QubitWeight: the walk of the law; the law at all arguments. -/
import Derived.Test.YtnjckeadcbfogaaQwb
import Derived.Test.YtnjckeadcbfogaaZp6
import Derived.Deep.RegionHeld3
import Derived.Deep.DeepCutAuto
namespace Go.Proofs.Ytnjckeadcbfogaa.C4
open Go.RowKit
set_option linter.unusedVariables false
set_option linter.unusedSimpArgs false
attribute [local irreducible] World.setCell

set_option maxRecDepth 100000 in
set_option maxHeartbeats 4000000 in
theorem bigQubitWeight0 {a0p0 : Int} {A1p0 : Option Addr} {n1p0 c1p0 : Nat} {i1 : Int} {i2 : Int} {w : World} (hb : 1048576 < (n1p0 : Int)) (hm : n1p0 ≤ maxLen) :
    Calls Try.prog 10 #[(circuitV a0p0 A1p0 n1p0 c1p0), .int .i64 i1, .int .i64 i2] w fun ee w' => ee = .returned (.bool true) ∧ Below w.heap.size w w' := by
  have hu : n1p0 ≤ 9223372036854775807 := by unfold maxLen at hm; omega
  have hb0 : 1048576 < (n1p0 : Int) := by omega
  have hb1 : 1048576 ≤ (1048576 : Int) := by omega
  have hb2 : (0 : Int) ≤ 1048576 := by omega
  go_enter Try.func10, Try.ntmps10
  go_wp2_with (fail)
  refine (szCircuit_f hb0 hb1 hb2 hm).mono ?_
  rintro ee v ⟨rfl, hv⟩
  go_wp2_with (fail)
  go_ret
  refine ⟨rfl, ?_⟩
  (repeat' (first | (with_reducible exact Below.refl _ _) | (with_reducible assumption) | (with_reducible refine Below.alloc ?_ ?_ _) | (with_reducible refine Below.drew ?_) | (with_reducible refine bdN ?_ _) | (with_reducible refine Below.setCell ?_ ?_ _) | (with_reducible refine chn ?_ (by assumption) ?_) | omega | (simp; done) | (simp; omega)))

set_option maxRecDepth 100000 in
set_option maxHeartbeats 16000000 in
theorem lwQubitWeight {a0p0 : Int} {A1p0 : Option Addr} {n1p0 c1p0 : Nat} {xs1p0 : List GateV} {i1 : Int} {i2 : Int} {y0 : DyadicV} {r1 : Bool} {w : World} (hS : ∀ (g1p0 : Nat) (w : World), Rd gateE w (some ⟨g1p0, 0, none⟩) xs1p0 → g1p0 < w.heap.size → Calls Try.prog 45 #[circuitV a0p0 (some ⟨g1p0, 0, none⟩) n1p0 n1p0, .int .i64 i1, .int .i64 i2] w fun ee w' => ee = .returned (.tuple #[y0.v, .bool r1]) ∧ Below w.heap.size w w') (hI : ∀ (g1p0 : Nat) (w : World), Rd gateE w (some ⟨g1p0, 0, none⟩) xs1p0 → Calls Try.prog 46 #[circuitV a0p0 (some ⟨g1p0, 0, none⟩) n1p0 n1p0, .int .i64 i1, .int .i64 i2] w fun ee w' => ee = .returned (.tuple #[y0.v, .bool r1]) ∧ Below w.heap.size w w') (hA1p0 : Rd gateE w A1p0 xs1p0) (hn1p0 : xs1p0.length = n1p0) (hb1p0 : (n1p0 : Int) ≤ 1048576) :
    Calls Try.prog 10 #[(circuitV a0p0 A1p0 n1p0 c1p0), .int .i64 i1, .int .i64 i2] w fun ee w' => ee = .returned (.bool true) ∧ Below w.heap.size w w' := by
  have HAA1p0 := lay hA1p0
  have HN1p0 := lay hn1p0
  have HS := lay hS
  have HI := lay hI
  have u0 : ¬ (1048576 - (n1p0 : Int) < 0) := by omega
  have v0 : 0 ≤ 1048576 - (n1p0 : Int) := by omega
  have s0 : (n1p0 : Int) ≤ 1048576 := by omega
  have t0 : 1048576 ≤ (1048576 : Int) := by omega
  have bn1p0 : n1p0 ≤ 1048576 := by omega
  have um0 : ¬ (1 + 3 * (n1p0 : Int) < 0) := by omega
  have vm0 : 0 ≤ 1 + 3 * (n1p0 : Int) := by omega
  have wm0 : 1 + 3 * (n1p0 : Int) ≤ 100000000 := by omega
  clear hS hI hA1p0 hn1p0
  go_enter Try.func10, Try.ntmps10
  go_wp2_with (fail)
  refine (szCircuit_t s0 t0).mono ?_
  rintro ee w1 ⟨rfl, hb1⟩
  have hL1 : Below w.heap.size w w1 := by (repeat' (first | (with_reducible exact Below.refl _ _) | (with_reducible assumption) | (with_reducible refine Below.alloc ?_ ?_ _) | (with_reducible refine Below.drew ?_) | (with_reducible refine bdN ?_ _) | (with_reducible refine Below.setCell ?_ ?_ _) | (with_reducible refine chn ?_ (by assumption) ?_) | omega | (simp; done) | (simp; omega)))
  have hz1 := hb1.size
  (try simp only [World.size_alloc] at hz1)
  have hB1 : Below w.heap.size w w1 := hL1
  have k1_0_0 : w1.cell? ⟨w.heap.size, 0, none⟩ = some (.int .i64 a0p0) := (hb1.cell (p := ⟨w.heap.size, 0, none⟩) (by show w.heap.size < _; (try simp only [World.size_alloc]); omega)).trans (by first | rfl | (simp; done) | (simp [*]; done))
  have k1_0_1 : w1.cell? ⟨w.heap.size, 1, none⟩ = some (.slice (A1p0) n1p0 c1p0) := (hb1.cell (p := ⟨w.heap.size, 1, none⟩) (by show w.heap.size < _; (try simp only [World.size_alloc]); omega)).trans (by first | rfl | (simp; done) | (simp [*]; done))
  have bl1_0 : w.heap.size < w1.heap.size := World.block_lt_of_cell? _ _ k1_0_0
  clear hb1 hL1
  go_wp2_with (fail)
  refine (toCircuit ?_ HN1p0.out bn1p0 ).mono ?_
  · exact HAA1p0.out.mono (by (repeat' (first | (with_reducible exact Below.refl _ _) | (with_reducible assumption) | (with_reducible refine Below.alloc ?_ ?_ _) | (with_reducible refine Below.drew ?_) | (with_reducible refine bdN ?_ _) | (with_reducible refine Below.setCell ?_ ?_ _) | (with_reducible refine chn ?_ (by assumption) ?_) | omega | (simp; done) | (simp; omega))))
  rintro ee w2 ⟨g2_1, rfl, hK2_1, hg2_1, hb2⟩
  have hL2 : Below w1.heap.size w1 w2 := by (repeat' (first | (with_reducible exact Below.refl _ _) | (with_reducible assumption) | (with_reducible refine Below.alloc ?_ ?_ _) | (with_reducible refine Below.drew ?_) | (with_reducible refine bdN ?_ _) | (with_reducible refine Below.setCell ?_ ?_ _) | (with_reducible refine chn ?_ (by assumption) ?_) | omega | (simp; done) | (simp; omega)))
  have hz2 := hb2.size
  (try simp only [World.size_alloc] at hz2)
  have hB2 : Below w.heap.size w w2 := chn hB1 hL2 hB1.size
  have k2_0_0 : w2.cell? ⟨w.heap.size, 0, none⟩ = some (.int .i64 a0p0) := (hL2.cell (p := ⟨w.heap.size, 0, none⟩) (by show w.heap.size < w1.heap.size; omega)).trans k1_0_0
  have k2_0_1 : w2.cell? ⟨w.heap.size, 1, none⟩ = some (.slice (A1p0) n1p0 c1p0) := (hL2.cell (p := ⟨w.heap.size, 1, none⟩) (by show w.heap.size < w1.heap.size; omega)).trans k1_0_1
  have bl2_0 : w.heap.size < w2.heap.size := World.block_lt_of_cell? _ _ k2_0_0
  clear hb2 hL2
  clear k1_0_0 k1_0_1
  (try simp only [World.size_alloc] at hg2_1)
  have HR02 := lay hK2_1
  clear hK2_1
  go_wp2_with (fail)
  refine (HS.out _ _ ?_ ?_).mono ?_
  · exact HR02.out.rd.mono (by (repeat' (first | (with_reducible exact Below.refl _ _) | (with_reducible assumption) | (with_reducible refine Below.alloc ?_ ?_ _) | (with_reducible refine Below.drew ?_) | (with_reducible refine bdN ?_ _) | (with_reducible refine Below.setCell ?_ ?_ _) | (with_reducible refine chn ?_ (by assumption) ?_) | omega | (simp; done) | (simp; omega))))
  · exact (by have h9 := HR02.out.lt; (try simp only [World.size_alloc]); omega)
  rintro ee w3 ⟨rfl, hb3⟩
  have hL3 : Below w2.heap.size w2 w3 := by (repeat' (first | (with_reducible exact Below.refl _ _) | (with_reducible assumption) | (with_reducible refine Below.alloc ?_ ?_ _) | (with_reducible refine Below.drew ?_) | (with_reducible refine bdN ?_ _) | (with_reducible refine Below.setCell ?_ ?_ _) | (with_reducible refine chn ?_ (by assumption) ?_) | omega | (simp; done) | (simp; omega)))
  have hz3 := hb3.size
  (try simp only [World.size_alloc] at hz3)
  have hB3 : Below w.heap.size w w3 := chn hB2 hL3 hB2.size
  have k3_0_0 : w3.cell? ⟨w.heap.size, 0, none⟩ = some (.int .i64 a0p0) := (hL3.cell (p := ⟨w.heap.size, 0, none⟩) (by show w.heap.size < w2.heap.size; omega)).trans k2_0_0
  have k3_0_1 : w3.cell? ⟨w.heap.size, 1, none⟩ = some (.slice (A1p0) n1p0 c1p0) := (hL3.cell (p := ⟨w.heap.size, 1, none⟩) (by show w.heap.size < w2.heap.size; omega)).trans k2_0_1
  have bl3_0 : w.heap.size < w3.heap.size := World.block_lt_of_cell? _ _ k3_0_0
  have HR03 := lay (HR02.out.mono hL3)
  clear hb3 hL3
  clear k2_0_0 k2_0_1 HR02
  clear HR03
  go_wp2_with (fail)
  refine (toCircuit ?_ HN1p0.out bn1p0 ).mono ?_
  · exact HAA1p0.out.mono (by (repeat' (first | (with_reducible exact Below.refl _ _) | (with_reducible assumption) | (with_reducible refine Below.alloc ?_ ?_ _) | (with_reducible refine Below.drew ?_) | (with_reducible refine bdN ?_ _) | (with_reducible refine Below.setCell ?_ ?_ _) | (with_reducible refine chn ?_ (by assumption) ?_) | omega | (simp; done) | (simp; omega))))
  rintro ee w4 ⟨g4_1, rfl, hK4_1, hg4_1, hb4⟩
  have hL4 : Below w3.heap.size w3 w4 := by (repeat' (first | (with_reducible exact Below.refl _ _) | (with_reducible assumption) | (with_reducible refine Below.alloc ?_ ?_ _) | (with_reducible refine Below.drew ?_) | (with_reducible refine bdN ?_ _) | (with_reducible refine Below.setCell ?_ ?_ _) | (with_reducible refine chn ?_ (by assumption) ?_) | omega | (simp; done) | (simp; omega)))
  have hz4 := hb4.size
  (try simp only [World.size_alloc] at hz4)
  have hB4 : Below w.heap.size w w4 := chn hB3 hL4 hB3.size
  have k4_0_0 : w4.cell? ⟨w.heap.size, 0, none⟩ = some (.int .i64 a0p0) := (hL4.cell (p := ⟨w.heap.size, 0, none⟩) (by show w.heap.size < w3.heap.size; omega)).trans k3_0_0
  have k4_0_1 : w4.cell? ⟨w.heap.size, 1, none⟩ = some (.slice (A1p0) n1p0 c1p0) := (hL4.cell (p := ⟨w.heap.size, 1, none⟩) (by show w.heap.size < w3.heap.size; omega)).trans k3_0_1
  have k4_1_0 : w4.cell? ⟨w3.heap.size, 0, none⟩ = some (.int .i64 y0.f0) := (hb4.cell (p := ⟨w3.heap.size, 0, none⟩) (by show w3.heap.size < _; (try simp only [World.size_alloc]); omega)).trans (by first | rfl | (simp; done) | (simp [*]; done))
  have k4_1_1 : w4.cell? ⟨w3.heap.size, 1, none⟩ = some (.int .i64 y0.f1) := (hb4.cell (p := ⟨w3.heap.size, 1, none⟩) (by show w3.heap.size < _; (try simp only [World.size_alloc]); omega)).trans (by first | rfl | (simp; done) | (simp [*]; done))
  have k4_1_2 : w4.cell? ⟨w3.heap.size, 2, none⟩ = some (.int .i64 y0.f2) := (hb4.cell (p := ⟨w3.heap.size, 2, none⟩) (by show w3.heap.size < _; (try simp only [World.size_alloc]); omega)).trans (by first | rfl | (simp; done) | (simp [*]; done))
  have k4_1_3 : w4.cell? ⟨w3.heap.size, 3, none⟩ = some (.int .i64 y0.f3) := (hb4.cell (p := ⟨w3.heap.size, 3, none⟩) (by show w3.heap.size < _; (try simp only [World.size_alloc]); omega)).trans (by first | rfl | (simp; done) | (simp [*]; done))
  have k4_1_4 : w4.cell? ⟨w3.heap.size, 4, none⟩ = some (.int .i64 y0.f4) := (hb4.cell (p := ⟨w3.heap.size, 4, none⟩) (by show w3.heap.size < _; (try simp only [World.size_alloc]); omega)).trans (by first | rfl | (simp; done) | (simp [*]; done))
  have bl4_0 : w.heap.size < w4.heap.size := World.block_lt_of_cell? _ _ k4_0_0
  have bl4_1 : w3.heap.size < w4.heap.size := World.block_lt_of_cell? _ _ k4_1_0
  clear hb4 hL4
  clear k3_0_0 k3_0_1
  (try simp only [World.size_alloc] at hg4_1)
  have HX14 : Hid (Ow gateE w4 (w3.heap.size + 1) 161 (some ⟨g4_1, 0, none⟩) xs1p0) := hK4_1.ow (by omega)
  clear hK4_1
  have hr_X1 := HX14.out.row
  go_wp2_with (fail)
  refine (HI.out _ _ ?_).mono ?_
  · exact HX14.out.rd.mono (by (repeat' (first | (with_reducible exact Below.refl _ _) | (with_reducible assumption) | (with_reducible refine Below.alloc ?_ ?_ _) | (with_reducible refine Below.drew ?_) | (with_reducible refine bdN ?_ _) | (with_reducible refine Below.setCell ?_ ?_ _) | (with_reducible refine chn ?_ (by assumption) ?_) | omega | (simp; done) | (simp; omega))))
  rintro ee w5 ⟨rfl, hb5⟩
  have hL5 : Below w4.heap.size w4 w5 := by (repeat' (first | (with_reducible exact Below.refl _ _) | (with_reducible assumption) | (with_reducible refine Below.alloc ?_ ?_ _) | (with_reducible refine Below.drew ?_) | (with_reducible refine bdN ?_ _) | (with_reducible refine Below.setCell ?_ ?_ _) | (with_reducible refine chn ?_ (by assumption) ?_) | omega | (simp; done) | (simp; omega)))
  have hz5 := hb5.size
  (try simp only [World.size_alloc] at hz5)
  have hB5 : Below w.heap.size w w5 := chn hB4 hL5 hB4.size
  have k5_0_0 : w5.cell? ⟨w.heap.size, 0, none⟩ = some (.int .i64 a0p0) := (hL5.cell (p := ⟨w.heap.size, 0, none⟩) (by show w.heap.size < w4.heap.size; omega)).trans k4_0_0
  have k5_0_1 : w5.cell? ⟨w.heap.size, 1, none⟩ = some (.slice (A1p0) n1p0 c1p0) := (hL5.cell (p := ⟨w.heap.size, 1, none⟩) (by show w.heap.size < w4.heap.size; omega)).trans k4_0_1
  have k5_1_0 : w5.cell? ⟨w3.heap.size, 0, none⟩ = some (.int .i64 y0.f0) := (hL5.cell (p := ⟨w3.heap.size, 0, none⟩) (by show w3.heap.size < w4.heap.size; omega)).trans k4_1_0
  have k5_1_1 : w5.cell? ⟨w3.heap.size, 1, none⟩ = some (.int .i64 y0.f1) := (hL5.cell (p := ⟨w3.heap.size, 1, none⟩) (by show w3.heap.size < w4.heap.size; omega)).trans k4_1_1
  have k5_1_2 : w5.cell? ⟨w3.heap.size, 2, none⟩ = some (.int .i64 y0.f2) := (hL5.cell (p := ⟨w3.heap.size, 2, none⟩) (by show w3.heap.size < w4.heap.size; omega)).trans k4_1_2
  have k5_1_3 : w5.cell? ⟨w3.heap.size, 3, none⟩ = some (.int .i64 y0.f3) := (hL5.cell (p := ⟨w3.heap.size, 3, none⟩) (by show w3.heap.size < w4.heap.size; omega)).trans k4_1_3
  have k5_1_4 : w5.cell? ⟨w3.heap.size, 4, none⟩ = some (.int .i64 y0.f4) := (hL5.cell (p := ⟨w3.heap.size, 4, none⟩) (by show w3.heap.size < w4.heap.size; omega)).trans k4_1_4
  have k5_2_0 : w5.cell? ⟨w4.heap.size, 0, none⟩ = some (.int .i64 a0p0) := (hb5.cell (p := ⟨w4.heap.size, 0, none⟩) (by show w4.heap.size < _; (try simp only [World.size_alloc]); omega)).trans (by first | rfl | (simp; done) | (simp [*]; done))
  have k5_2_1 : w5.cell? ⟨w4.heap.size, 1, none⟩ = some (.slice (some ⟨g4_1, 0, none⟩) n1p0 n1p0) := (hb5.cell (p := ⟨w4.heap.size, 1, none⟩) (by show w4.heap.size < _; (try simp only [World.size_alloc]); omega)).trans (by first | rfl | (simp; done) | (simp [*]; done))
  have bl5_0 : w.heap.size < w5.heap.size := World.block_lt_of_cell? _ _ k5_0_0
  have bl5_1 : w3.heap.size < w5.heap.size := World.block_lt_of_cell? _ _ k5_1_0
  have bl5_2 : w4.heap.size < w5.heap.size := World.block_lt_of_cell? _ _ k5_2_0
  have HX15 := lay (HX14.out.mono hL5)
  clear hb5 hL5
  clear k4_0_0 k4_0_1 k4_1_0 k4_1_1 k4_1_2 k4_1_3 k4_1_4 HX14
  go_wp2_with (fail)
  refine (eqDyadic y0 _).mono ?_
  rintro ee w6 ⟨rfl, hb6⟩
  have hL6 : Below w5.heap.size w5 w6 := by (repeat' (first | (with_reducible exact Below.refl _ _) | (with_reducible assumption) | (with_reducible refine Below.alloc ?_ ?_ _) | (with_reducible refine Below.drew ?_) | (with_reducible refine bdN ?_ _) | (with_reducible refine Below.setCell ?_ ?_ _) | (with_reducible refine chn ?_ (by assumption) ?_) | omega | (simp; done) | (simp; omega)))
  have hz6 := hb6.size
  (try simp only [World.size_alloc] at hz6)
  have hB6 : Below w.heap.size w w6 := chn hB5 hL6 hB5.size
  have k6_0_0 : w6.cell? ⟨w.heap.size, 0, none⟩ = some (.int .i64 a0p0) := (hL6.cell (p := ⟨w.heap.size, 0, none⟩) (by show w.heap.size < w5.heap.size; omega)).trans k5_0_0
  have k6_0_1 : w6.cell? ⟨w.heap.size, 1, none⟩ = some (.slice (A1p0) n1p0 c1p0) := (hL6.cell (p := ⟨w.heap.size, 1, none⟩) (by show w.heap.size < w5.heap.size; omega)).trans k5_0_1
  have k6_1_0 : w6.cell? ⟨w3.heap.size, 0, none⟩ = some (.int .i64 y0.f0) := (hL6.cell (p := ⟨w3.heap.size, 0, none⟩) (by show w3.heap.size < w5.heap.size; omega)).trans k5_1_0
  have k6_1_1 : w6.cell? ⟨w3.heap.size, 1, none⟩ = some (.int .i64 y0.f1) := (hL6.cell (p := ⟨w3.heap.size, 1, none⟩) (by show w3.heap.size < w5.heap.size; omega)).trans k5_1_1
  have k6_1_2 : w6.cell? ⟨w3.heap.size, 2, none⟩ = some (.int .i64 y0.f2) := (hL6.cell (p := ⟨w3.heap.size, 2, none⟩) (by show w3.heap.size < w5.heap.size; omega)).trans k5_1_2
  have k6_1_3 : w6.cell? ⟨w3.heap.size, 3, none⟩ = some (.int .i64 y0.f3) := (hL6.cell (p := ⟨w3.heap.size, 3, none⟩) (by show w3.heap.size < w5.heap.size; omega)).trans k5_1_3
  have k6_1_4 : w6.cell? ⟨w3.heap.size, 4, none⟩ = some (.int .i64 y0.f4) := (hL6.cell (p := ⟨w3.heap.size, 4, none⟩) (by show w3.heap.size < w5.heap.size; omega)).trans k5_1_4
  have k6_2_0 : w6.cell? ⟨w4.heap.size, 0, none⟩ = some (.int .i64 a0p0) := (hL6.cell (p := ⟨w4.heap.size, 0, none⟩) (by show w4.heap.size < w5.heap.size; omega)).trans k5_2_0
  have k6_2_1 : w6.cell? ⟨w4.heap.size, 1, none⟩ = some (.slice (some ⟨g4_1, 0, none⟩) n1p0 n1p0) := (hL6.cell (p := ⟨w4.heap.size, 1, none⟩) (by show w4.heap.size < w5.heap.size; omega)).trans k5_2_1
  have k6_3_0 : w6.cell? ⟨w5.heap.size, 0, none⟩ = some (.int .i64 y0.f0) := (hb6.cell (p := ⟨w5.heap.size, 0, none⟩) (by show w5.heap.size < _; (try simp only [World.size_alloc]); omega)).trans (by first | rfl | (simp; done) | (simp [*]; done))
  have k6_3_1 : w6.cell? ⟨w5.heap.size, 1, none⟩ = some (.int .i64 y0.f1) := (hb6.cell (p := ⟨w5.heap.size, 1, none⟩) (by show w5.heap.size < _; (try simp only [World.size_alloc]); omega)).trans (by first | rfl | (simp; done) | (simp [*]; done))
  have k6_3_2 : w6.cell? ⟨w5.heap.size, 2, none⟩ = some (.int .i64 y0.f2) := (hb6.cell (p := ⟨w5.heap.size, 2, none⟩) (by show w5.heap.size < _; (try simp only [World.size_alloc]); omega)).trans (by first | rfl | (simp; done) | (simp [*]; done))
  have k6_3_3 : w6.cell? ⟨w5.heap.size, 3, none⟩ = some (.int .i64 y0.f3) := (hb6.cell (p := ⟨w5.heap.size, 3, none⟩) (by show w5.heap.size < _; (try simp only [World.size_alloc]); omega)).trans (by first | rfl | (simp; done) | (simp [*]; done))
  have k6_3_4 : w6.cell? ⟨w5.heap.size, 4, none⟩ = some (.int .i64 y0.f4) := (hb6.cell (p := ⟨w5.heap.size, 4, none⟩) (by show w5.heap.size < _; (try simp only [World.size_alloc]); omega)).trans (by first | rfl | (simp; done) | (simp [*]; done))
  have bl6_0 : w.heap.size < w6.heap.size := World.block_lt_of_cell? _ _ k6_0_0
  have bl6_1 : w3.heap.size < w6.heap.size := World.block_lt_of_cell? _ _ k6_1_0
  have bl6_2 : w4.heap.size < w6.heap.size := World.block_lt_of_cell? _ _ k6_2_0
  have bl6_3 : w5.heap.size < w6.heap.size := World.block_lt_of_cell? _ _ k6_3_0
  have HX16 := lay (HX15.out.mono hL6)
  clear hb6 hL6
  clear k5_0_0 k5_0_1 k5_1_0 k5_1_1 k5_1_2 k5_1_3 k5_1_4 k5_2_0 k5_2_1 HX15
  go_wp2_with (fail)
  go_cut [48] (fun s48 wx => (s48 = .bool false) ∧ (wx.cell? ⟨w.heap.size, 0, none⟩ = some (.int .i64 a0p0) ∧ wx.cell? ⟨w.heap.size, 1, none⟩ = some (.slice (A1p0) n1p0 c1p0) ∧ wx.cell? ⟨w3.heap.size, 0, none⟩ = some (.int .i64 y0.f0) ∧ wx.cell? ⟨w3.heap.size, 1, none⟩ = some (.int .i64 y0.f1) ∧ wx.cell? ⟨w3.heap.size, 2, none⟩ = some (.int .i64 y0.f2) ∧ wx.cell? ⟨w3.heap.size, 3, none⟩ = some (.int .i64 y0.f3) ∧ wx.cell? ⟨w3.heap.size, 4, none⟩ = some (.int .i64 y0.f4) ∧ wx.cell? ⟨w4.heap.size, 0, none⟩ = some (.int .i64 a0p0) ∧ wx.cell? ⟨w4.heap.size, 1, none⟩ = some (.slice (some ⟨g4_1, 0, none⟩) n1p0 n1p0) ∧ wx.cell? ⟨w5.heap.size, 0, none⟩ = some (.int .i64 y0.f0) ∧ wx.cell? ⟨w5.heap.size, 1, none⟩ = some (.int .i64 y0.f1) ∧ wx.cell? ⟨w5.heap.size, 2, none⟩ = some (.int .i64 y0.f2) ∧ wx.cell? ⟨w5.heap.size, 3, none⟩ = some (.int .i64 y0.f3) ∧ wx.cell? ⟨w5.heap.size, 4, none⟩ = some (.int .i64 y0.f4) ∧ Hid (Ow gateE wx (w3.heap.size + 1) 161 (some ⟨g4_1, 0, none⟩) xs1p0) ∧ w6.heap.size ≤ wx.heap.size ∧ Below w.heap.size w wx))
  case first =>
    have yk6_0_0 : w6.drew.cell? ⟨w.heap.size, 0, none⟩ = some (.int .i64 a0p0) := k6_0_0
    have yk6_0_1 : w6.drew.cell? ⟨w.heap.size, 1, none⟩ = some (.slice (A1p0) n1p0 c1p0) := k6_0_1
    have yk6_1_0 : w6.drew.cell? ⟨w3.heap.size, 0, none⟩ = some (.int .i64 y0.f0) := k6_1_0
    have yk6_1_1 : w6.drew.cell? ⟨w3.heap.size, 1, none⟩ = some (.int .i64 y0.f1) := k6_1_1
    have yk6_1_2 : w6.drew.cell? ⟨w3.heap.size, 2, none⟩ = some (.int .i64 y0.f2) := k6_1_2
    have yk6_1_3 : w6.drew.cell? ⟨w3.heap.size, 3, none⟩ = some (.int .i64 y0.f3) := k6_1_3
    have yk6_1_4 : w6.drew.cell? ⟨w3.heap.size, 4, none⟩ = some (.int .i64 y0.f4) := k6_1_4
    have yk6_2_0 : w6.drew.cell? ⟨w4.heap.size, 0, none⟩ = some (.int .i64 a0p0) := k6_2_0
    have yk6_2_1 : w6.drew.cell? ⟨w4.heap.size, 1, none⟩ = some (.slice (some ⟨g4_1, 0, none⟩) n1p0 n1p0) := k6_2_1
    have yk6_3_0 : w6.drew.cell? ⟨w5.heap.size, 0, none⟩ = some (.int .i64 y0.f0) := k6_3_0
    have yk6_3_1 : w6.drew.cell? ⟨w5.heap.size, 1, none⟩ = some (.int .i64 y0.f1) := k6_3_1
    have yk6_3_2 : w6.drew.cell? ⟨w5.heap.size, 2, none⟩ = some (.int .i64 y0.f2) := k6_3_2
    have yk6_3_3 : w6.drew.cell? ⟨w5.heap.size, 3, none⟩ = some (.int .i64 y0.f3) := k6_3_3
    have yk6_3_4 : w6.drew.cell? ⟨w5.heap.size, 4, none⟩ = some (.int .i64 y0.f4) := k6_3_4
    have hBz := hB6.size
    go_region_held3 (fun w' => w'.cell? ⟨w.heap.size, 0, none⟩ = some (.int .i64 a0p0) ∧ w'.cell? ⟨w.heap.size, 1, none⟩ = some (.slice (A1p0) n1p0 c1p0) ∧ w'.cell? ⟨w3.heap.size, 0, none⟩ = some (.int .i64 y0.f0) ∧ w'.cell? ⟨w3.heap.size, 1, none⟩ = some (.int .i64 y0.f1) ∧ w'.cell? ⟨w3.heap.size, 2, none⟩ = some (.int .i64 y0.f2) ∧ w'.cell? ⟨w3.heap.size, 3, none⟩ = some (.int .i64 y0.f3) ∧ w'.cell? ⟨w3.heap.size, 4, none⟩ = some (.int .i64 y0.f4) ∧ w'.cell? ⟨w4.heap.size, 0, none⟩ = some (.int .i64 a0p0) ∧ w'.cell? ⟨w4.heap.size, 1, none⟩ = some (.slice (some ⟨g4_1, 0, none⟩) n1p0 n1p0) ∧ w'.cell? ⟨w5.heap.size, 0, none⟩ = some (.int .i64 y0.f0) ∧ w'.cell? ⟨w5.heap.size, 1, none⟩ = some (.int .i64 y0.f1) ∧ w'.cell? ⟨w5.heap.size, 2, none⟩ = some (.int .i64 y0.f2) ∧ w'.cell? ⟨w5.heap.size, 3, none⟩ = some (.int .i64 y0.f3) ∧ w'.cell? ⟨w5.heap.size, 4, none⟩ = some (.int .i64 y0.f4)) (first | (with_reducible exact ⟨yk6_0_0, yk6_0_1, yk6_1_0, yk6_1_1, yk6_1_2, yk6_1_3, yk6_1_4, yk6_2_0, yk6_2_1, yk6_3_0, yk6_3_1, yk6_3_2, yk6_3_3, yk6_3_4⟩) | (with_reducible exact ⟨k6_0_0, k6_0_1, k6_1_0, k6_1_1, k6_1_2, k6_1_3, k6_1_4, k6_2_0, k6_2_1, k6_3_0, k6_3_1, k6_3_2, k6_3_3, k6_3_4⟩) | (go_split_ands; with_reducible exact ⟨kcl hv0 (by with_reducible assumption), kcl hv0 (by with_reducible assumption), kcl hv0 (by with_reducible assumption), kcl hv0 (by with_reducible assumption), kcl hv0 (by with_reducible assumption), kcl hv0 (by with_reducible assumption), kcl hv0 (by with_reducible assumption), kcl hv0 (by with_reducible assumption), kcl hv0 (by with_reducible assumption), kcl hv0 (by with_reducible assumption), kcl hv0 (by with_reducible assumption), kcl hv0 (by with_reducible assumption), kcl hv0 (by with_reducible assumption), kcl hv0 (by with_reducible assumption)⟩) | (go_split_ands; with_reducible exact ⟨kcl hv1 (by with_reducible assumption), kcl hv1 (by with_reducible assumption), kcl hv1 (by with_reducible assumption), kcl hv1 (by with_reducible assumption), kcl hv1 (by with_reducible assumption), kcl hv1 (by with_reducible assumption), kcl hv1 (by with_reducible assumption), kcl hv1 (by with_reducible assumption), kcl hv1 (by with_reducible assumption), kcl hv1 (by with_reducible assumption), kcl hv1 (by with_reducible assumption), kcl hv1 (by with_reducible assumption), kcl hv1 (by with_reducible assumption), kcl hv1 (by with_reducible assumption)⟩)) (first | (go_at_call 32; ((with_reducible refine (toCircuit (xs1 := xs1p0) ?_ HN1p0.out bn1p0).mono ?_); (exact HAA1p0.out.mono (by (repeat' (first | (with_reducible exact Below.refl _ _) | (with_reducible assumption) | (with_reducible refine Below.alloc ?_ ?_ _) | (with_reducible refine Below.drew ?_) | (with_reducible refine bdN ?_ _) | (with_reducible refine Below.setCell ?_ ?_ _) | (with_reducible refine chn ?_ (by assumption) ?_) | omega | (simp; done) | (simp; omega))))); rintro ee v0 ⟨g9, rfl, hK9, hg9, hv0⟩; have hq0 := hv0.size; (try simp only [World.size_drew, World.size_alloc] at hq0))) | (go_at_call 34; ((with_reducible refine (eqCircuit (xs1 := xs1p0) ?_ ?_ HN1p0.out bn1p0).mono ?_); (exact HX16.out.rd.mono (by (repeat' (first | (with_reducible exact Below.refl _ _) | (with_reducible assumption) | (with_reducible refine Below.alloc ?_ ?_ _) | (with_reducible refine Below.drew ?_) | (with_reducible refine bdN ?_ _) | (with_reducible refine Below.setCell ?_ ?_ _) | (with_reducible refine chn ?_ (by assumption) ?_) | omega | (simp; done) | (simp; omega))))); (exact hK9.rd); rintro ee v1 ⟨rfl, hv1⟩; have hq1 := hv1.size; (try simp only [World.size_drew, World.size_alloc] at hq1))))
    all_goals (go_wp2_with fail; go_meet)
    all_goals go_split_ands
    all_goals (refine ⟨rfl, (by with_reducible assumption), (by with_reducible assumption), (by with_reducible assumption), (by with_reducible assumption), (by with_reducible assumption), (by with_reducible assumption), (by with_reducible assumption), (by with_reducible assumption), (by with_reducible assumption), (by with_reducible assumption), (by with_reducible assumption), (by with_reducible assumption), (by with_reducible assumption), (by with_reducible assumption), (by exact HX16.out.mono (by (repeat' (first | (with_reducible exact Below.refl _ _) | (with_reducible assumption) | (with_reducible refine Below.alloc ?_ ?_ _) | (with_reducible refine Below.drew ?_) | (with_reducible refine bdN ?_ _) | (with_reducible refine Below.setCell ?_ ?_ _) | (with_reducible refine chn ?_ (by assumption) ?_) | omega | (simp; done) | (simp; omega))))), (by (try simp only [World.size_alloc, World.size_drew, World.size_setCell]); omega), (by (repeat' (first | (with_reducible exact Below.refl _ _) | (with_reducible assumption) | (with_reducible refine Below.alloc ?_ ?_ _) | (with_reducible refine Below.drew ?_) | (with_reducible refine bdN ?_ _) | (with_reducible refine Below.setCell ?_ ?_ _) | (with_reducible refine chn ?_ (by assumption) ?_) | omega | (simp; done) | (simp; omega))))⟩)
  case rest =>
    obtain ⟨w7, rfl⟩ : ∃ w7, w7 = wc := ⟨_, rfl⟩
    clear k6_0_0 k6_0_1 k6_1_0 k6_1_1 k6_1_2 k6_1_3 k6_1_4 k6_2_0 k6_2_1 k6_3_0 k6_3_1 k6_3_2 k6_3_3 k6_3_4 HX16
    obtain ⟨rfl, k7_0_0, k7_0_1, k7_1_0, k7_1_1, k7_1_2, k7_1_3, k7_1_4, k7_2_0, k7_2_1, k7_3_0, k7_3_1, k7_3_2, k7_3_3, k7_3_4, HX17, hz7, hB7⟩ := hcut
    have bl7_0 : w.heap.size < w7.heap.size := World.block_lt_of_cell? _ _ k7_0_0
    have bl7_1 : w3.heap.size < w7.heap.size := World.block_lt_of_cell? _ _ k7_1_0
    have bl7_2 : w4.heap.size < w7.heap.size := World.block_lt_of_cell? _ _ k7_2_0
    have bl7_3 : w5.heap.size < w7.heap.size := World.block_lt_of_cell? _ _ k7_3_0
    go_wp2_with (fail)
    go_ret
    exact ⟨rfl, hB7⟩

theorem fnExactQubitWeight_walk {a0p0 : Int} {A1p0 : Option Addr} {n1p0 c1p0 : Nat} {xs1p0 : List GateV} {i1 : Int} {i2 : Int} {w : World} (hA1p0 : Rd gateE w A1p0 xs1p0) (hn1p0 : xs1p0.length = n1p0) (hm1p0 : n1p0 ≤ maxLen) :
    Calls Try.prog 10 #[(circuitV a0p0 A1p0 n1p0 c1p0), .int .i64 i1, .int .i64 i2] w fun ee w' => ee = .returned (.bool true) ∧ Below w.heap.size w w' := by
  by_cases hb1p0 : (n1p0 : Int) ≤ 1048576
  · skip
    obtain ⟨y0, r1, hS, hI⟩ := qwC (a0 := a0p0) (s := i1) (e9 := i2) hn1p0 hm1p0
    exact lwQubitWeight (y0 := y0) (r1 := r1) (fun g w hA lA => hS _ _ w hA (fun a ha => by cases ha; exact lA)) (fun g w hA => hI _ _ w hA)  hA1p0 hn1p0 hb1p0
  · exact bigQubitWeight0  (by omega) hm1p0

end Go.Proofs.Ytnjckeadcbfogaa.C4
