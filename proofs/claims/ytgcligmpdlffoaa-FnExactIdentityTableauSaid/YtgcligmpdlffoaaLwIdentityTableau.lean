/- IdentityTableau: the walk of the law; the law at all arguments. -/
import Derived.Test.YtgcligmpdlffoaaPit
import Derived.Deep.RegionHeld3
import Derived.Deep.DeepCutAuto
namespace Go.Proofs.Ytgcligmpdlffoaa.C4
open Go.RowKit
set_option linter.unusedVariables false
set_option linter.unusedSimpArgs false
attribute [local irreducible] World.setCell

set_option maxRecDepth 100000 in
set_option maxHeartbeats 16000000 in
theorem lwIdentityTableau {i0 : Int} {a0q0 : Int} {k1q0 : Nat} {zs1q0 : List PauliV} {k2q0 : Nat} {zs2q0 : List PauliV} {r1 : Bool} {w : World} (hS : ∀ (w : World), Calls Try.prog 44 #[.int .i64 i0] w fun ee w' => ∃ A1q0 c1q0 A2q0 c2q0, ee = .returned (.tuple #[tableauV a0q0 A1q0 k1q0 c1q0 A2q0 k2q0 c2q0, .bool r1]) ∧ (Rd pauliE w' A1q0 zs1q0 ∧ (∀ a, A1q0 = some a → w.heap.size ≤ a.block)) ∧ (Rd pauliE w' A2q0 zs2q0 ∧ (∀ a, A2q0 = some a → w.heap.size ≤ a.block)) ∧ Below w.heap.size w w') (hI : ∀ (w : World), Calls Try.prog 45 #[.int .i64 i0] w fun ee w' => ∃ A1q0 c1q0 A2q0 c2q0, ee = .returned (.tuple #[tableauV a0q0 A1q0 k1q0 c1q0 A2q0 k2q0 c2q0, .bool r1]) ∧ Ow pauliE w' w.heap.size 45 A1q0 zs1q0 ∧ Ow pauliE w' w.heap.size 45 A2q0 zs2q0 ∧ (∀ r, blk A1q0 = some r → blk A2q0 ≠ some r) ∧ Below w.heap.size w w') (hz1q0 : zs1q0.length = k1q0) (hk1q0 : k1q0 ≤ 1048576) (hz2q0 : zs2q0.length = k2q0) (hk2q0 : k2q0 ≤ 1048576) :
    Calls Try.prog 11 #[.int .i64 i0] w fun ee w' => ee = .returned (.bool true) ∧ Below w.heap.size w w' := by
  have HZ1q0 := lay hz1q0
  have HZ2q0 := lay hz2q0
  have HS := lay hS
  have HI := lay hI
  have uk1q0 : ¬ (1 + 3 * (k1q0 : Int) < 0) := by omega
  have vk1q0 : 0 ≤ 1 + 3 * (k1q0 : Int) := by omega
  have wk1q0 : 1 + 3 * (k1q0 : Int) ≤ 100000000 := by omega
  have uk2q0 : ¬ (1 + 3 * (k1q0 : Int) + 3 * (k2q0 : Int) < 0) := by omega
  have vk2q0 : 0 ≤ 1 + 3 * (k1q0 : Int) + 3 * (k2q0 : Int) := by omega
  have wk2q0 : 1 + 3 * (k1q0 : Int) + 3 * (k2q0 : Int) ≤ 100000000 := by omega
  clear hS hI hz1q0 hz2q0
  go_enter Try.func11, Try.ntmps11
  go_wp2_with (fail)
  refine (HS.out _).mono ?_
  rintro ee w1 ⟨A1_1q0, c1_1q0, A1_2q0, c1_2q0, rfl, hR1_1q0, hR1_2q0, hb1⟩
  have hL1 : Below w.heap.size w w1 := by (repeat' (first | (with_reducible exact Below.refl _ _) | (with_reducible assumption) | (with_reducible refine Below.alloc ?_ ?_ _) | (with_reducible refine Below.drew ?_) | (with_reducible refine bdN ?_ _) | (with_reducible refine Below.setCell ?_ ?_ _) | (with_reducible refine chn ?_ (by assumption) ?_) | omega | (simp; done) | (simp; omega)))
  have hz1 := hb1.size
  (try simp only [World.size_alloc] at hz1)
  have hB1 : Below w.heap.size w w1 := hL1
  clear hb1 hL1
  have HW1q01 : Hid (RdB pauliE w1 w1.heap.size A1_1q0 zs1q0) := hR1_1q0.1.b (Nat.le_refl _)
  clear hR1_1q0
  have HW2q01 : Hid (RdB pauliE w1 w1.heap.size A1_2q0 zs2q0) := hR1_2q0.1.b (Nat.le_refl _)
  clear hR1_2q0
  go_wp2_with (fail)
  refine (HI.out _).mono ?_
  rintro ee w2 ⟨A2_1q0, c2_1q0, A2_2q0, c2_2q0, rfl, hO2_1q0, hO2_2q0, hNE2, hb2⟩
  have hL2 : Below w1.heap.size w1 w2 := by (repeat' (first | (with_reducible exact Below.refl _ _) | (with_reducible assumption) | (with_reducible refine Below.alloc ?_ ?_ _) | (with_reducible refine Below.drew ?_) | (with_reducible refine bdN ?_ _) | (with_reducible refine Below.setCell ?_ ?_ _) | (with_reducible refine chn ?_ (by assumption) ?_) | omega | (simp; done) | (simp; omega)))
  have hz2 := hb2.size
  (try simp only [World.size_alloc] at hz2)
  have hB2 : Below w.heap.size w w2 := chn hB1 hL2 hB1.size
  have k2_0_0 : w2.cell? ⟨w1.heap.size, 0, none⟩ = some (.int .i64 a0q0) := (hb2.cell (p := ⟨w1.heap.size, 0, none⟩) (by show w1.heap.size < _; (try simp only [World.size_alloc]); omega)).trans (by first | rfl | (simp; done) | (simp [*]; done))
  have k2_0_1 : w2.cell? ⟨w1.heap.size, 1, none⟩ = some (.slice A1_1q0 k1q0 c1_1q0) := (hb2.cell (p := ⟨w1.heap.size, 1, none⟩) (by show w1.heap.size < _; (try simp only [World.size_alloc]); omega)).trans (by first | rfl | (simp; done) | (simp [*]; done))
  have k2_0_2 : w2.cell? ⟨w1.heap.size, 2, none⟩ = some (.slice A1_2q0 k2q0 c1_2q0) := (hb2.cell (p := ⟨w1.heap.size, 2, none⟩) (by show w1.heap.size < _; (try simp only [World.size_alloc]); omega)).trans (by first | rfl | (simp; done) | (simp [*]; done))
  have bl2_0 : w1.heap.size < w2.heap.size := World.block_lt_of_cell? _ _ k2_0_0
  have HW1q02 := lay (HW1q01.out.mono hL2)
  have HW2q02 := lay (HW2q01.out.mono hL2)
  clear hb2 hL2
  clear HW1q01 HW2q01
  (try simp only [World.size_alloc] at hO2_1q0)
  have HG1q02 : Hid (Ow pauliE w2 (w1.heap.size + 1) 45 A2_1q0 zs1q0) := hO2_1q0.dn (by omega)
  clear hO2_1q0
  have hr_G1q0 := HG1q02.out.row
  (try simp only [World.size_alloc] at hO2_2q0)
  have HG2q02 : Hid (Ow pauliE w2 (w1.heap.size + 1) 45 A2_2q0 zs2q0) := hO2_2q0.dn (by omega)
  clear hO2_2q0
  have hr_G2q0 := HG2q02.out.row
  go_wp2_with (fail)
  refine (eqTableau (xs1 := zs1q0) (xs2 := zs2q0) ?_ ?_ ?_ ?_ HZ1q0.out hk1q0 HZ2q0.out hk2q0).mono ?_
  · exact HG1q02.out.rd.mono (by (repeat' (first | (with_reducible exact Below.refl _ _) | (with_reducible assumption) | (with_reducible refine Below.alloc ?_ ?_ _) | (with_reducible refine Below.drew ?_) | (with_reducible refine bdN ?_ _) | (with_reducible refine Below.setCell ?_ ?_ _) | (with_reducible refine chn ?_ (by assumption) ?_) | omega | (simp; done) | (simp; omega))))
  · exact HG2q02.out.rd.mono (by (repeat' (first | (with_reducible exact Below.refl _ _) | (with_reducible assumption) | (with_reducible refine Below.alloc ?_ ?_ _) | (with_reducible refine Below.drew ?_) | (with_reducible refine bdN ?_ _) | (with_reducible refine Below.setCell ?_ ?_ _) | (with_reducible refine chn ?_ (by assumption) ?_) | omega | (simp; done) | (simp; omega))))
  · exact HW1q02.out.rd.mono (by (repeat' (first | (with_reducible exact Below.refl _ _) | (with_reducible assumption) | (with_reducible refine Below.alloc ?_ ?_ _) | (with_reducible refine Below.drew ?_) | (with_reducible refine bdN ?_ _) | (with_reducible refine Below.setCell ?_ ?_ _) | (with_reducible refine chn ?_ (by assumption) ?_) | omega | (simp; done) | (simp; omega))))
  · exact HW2q02.out.rd.mono (by (repeat' (first | (with_reducible exact Below.refl _ _) | (with_reducible assumption) | (with_reducible refine Below.alloc ?_ ?_ _) | (with_reducible refine Below.drew ?_) | (with_reducible refine bdN ?_ _) | (with_reducible refine Below.setCell ?_ ?_ _) | (with_reducible refine chn ?_ (by assumption) ?_) | omega | (simp; done) | (simp; omega))))
  rintro ee w3 ⟨rfl, hb3⟩
  have hL3 : Below w2.heap.size w2 w3 := by (repeat' (first | (with_reducible exact Below.refl _ _) | (with_reducible assumption) | (with_reducible refine Below.alloc ?_ ?_ _) | (with_reducible refine Below.drew ?_) | (with_reducible refine bdN ?_ _) | (with_reducible refine Below.setCell ?_ ?_ _) | (with_reducible refine chn ?_ (by assumption) ?_) | omega | (simp; done) | (simp; omega)))
  have hz3 := hb3.size
  (try simp only [World.size_alloc] at hz3)
  have hB3 : Below w.heap.size w w3 := chn hB2 hL3 hB2.size
  have k3_0_0 : w3.cell? ⟨w1.heap.size, 0, none⟩ = some (.int .i64 a0q0) := (hL3.cell (p := ⟨w1.heap.size, 0, none⟩) (by show w1.heap.size < w2.heap.size; omega)).trans k2_0_0
  have k3_0_1 : w3.cell? ⟨w1.heap.size, 1, none⟩ = some (.slice A1_1q0 k1q0 c1_1q0) := (hL3.cell (p := ⟨w1.heap.size, 1, none⟩) (by show w1.heap.size < w2.heap.size; omega)).trans k2_0_1
  have k3_0_2 : w3.cell? ⟨w1.heap.size, 2, none⟩ = some (.slice A1_2q0 k2q0 c1_2q0) := (hL3.cell (p := ⟨w1.heap.size, 2, none⟩) (by show w1.heap.size < w2.heap.size; omega)).trans k2_0_2
  have k3_1_0 : w3.cell? ⟨w2.heap.size, 0, none⟩ = some (.int .i64 a0q0) := (hb3.cell (p := ⟨w2.heap.size, 0, none⟩) (by show w2.heap.size < _; (try simp only [World.size_alloc]); omega)).trans (by first | rfl | (simp; done) | (simp [*]; done))
  have k3_1_1 : w3.cell? ⟨w2.heap.size, 1, none⟩ = some (.slice A2_1q0 k1q0 c2_1q0) := (hb3.cell (p := ⟨w2.heap.size, 1, none⟩) (by show w2.heap.size < _; (try simp only [World.size_alloc]); omega)).trans (by first | rfl | (simp; done) | (simp [*]; done))
  have k3_1_2 : w3.cell? ⟨w2.heap.size, 2, none⟩ = some (.slice A2_2q0 k2q0 c2_2q0) := (hb3.cell (p := ⟨w2.heap.size, 2, none⟩) (by show w2.heap.size < _; (try simp only [World.size_alloc]); omega)).trans (by first | rfl | (simp; done) | (simp [*]; done))
  have bl3_0 : w1.heap.size < w3.heap.size := World.block_lt_of_cell? _ _ k3_0_0
  have bl3_1 : w2.heap.size < w3.heap.size := World.block_lt_of_cell? _ _ k3_1_0
  have HW1q03 := lay (HW1q02.out.mono hL3)
  have HW2q03 := lay (HW2q02.out.mono hL3)
  have HG1q03 := lay (HG1q02.out.mono hL3)
  have HG2q03 := lay (HG2q02.out.mono hL3)
  clear hb3 hL3
  clear k2_0_0 k2_0_1 k2_0_2 HW1q02 HW2q02 HG1q02 HG2q02
  go_wp2_with (fail)
  refine (markTableau (B1 := w1.heap.size + 1) (B2 := w1.heap.size + 1) ?_ ?_ hNE2 HZ1q0.out hk1q0 HZ2q0.out hk2q0 (by omega) (by omega)).mono ?_
  · exact HG1q03.out
  · exact HG2q03.out
  rintro ee w4 ⟨rfl, hOa4, hOb4, wm4, hGa4, hGb4⟩
  have hzm4 := hGa4.size
  have hzn4 := hGb4.size
  have hz4 : w3.heap.size ≤ w4.heap.size := Nat.le_trans hzm4 hzn4
  have hM4 := Below.grown hB3 hGa4 hB3.size (fun r hr => by have := hr_G1q0 r hr; omega)
  have hB4 : Below w.heap.size w w4 := Below.grown hM4 hGb4 hM4.size (fun r hr => by have := hr_G2q0 r hr; omega)
  have k4_0_0 : w4.cell? ⟨w1.heap.size, 0, none⟩ = some (.int .i64 a0q0) := hGb4.cell (hGa4.cell k3_0_0 (fun e => by have := hr_G1q0 (w1.heap.size) e.symm; omega)) (fun e => by have := hr_G2q0 (w1.heap.size) e.symm; omega)
  have k4_0_1 : w4.cell? ⟨w1.heap.size, 1, none⟩ = some (.slice A1_1q0 k1q0 c1_1q0) := hGb4.cell (hGa4.cell k3_0_1 (fun e => by have := hr_G1q0 (w1.heap.size) e.symm; omega)) (fun e => by have := hr_G2q0 (w1.heap.size) e.symm; omega)
  have k4_0_2 : w4.cell? ⟨w1.heap.size, 2, none⟩ = some (.slice A1_2q0 k2q0 c1_2q0) := hGb4.cell (hGa4.cell k3_0_2 (fun e => by have := hr_G1q0 (w1.heap.size) e.symm; omega)) (fun e => by have := hr_G2q0 (w1.heap.size) e.symm; omega)
  have k4_1_0 : w4.cell? ⟨w2.heap.size, 0, none⟩ = some (.int .i64 a0q0) := hGb4.cell (hGa4.cell k3_1_0 (fun e => by have := hr_G1q0 (w2.heap.size) e.symm; omega)) (fun e => by have := hr_G2q0 (w2.heap.size) e.symm; omega)
  have k4_1_1 : w4.cell? ⟨w2.heap.size, 1, none⟩ = some (.slice A2_1q0 k1q0 c2_1q0) := hGb4.cell (hGa4.cell k3_1_1 (fun e => by have := hr_G1q0 (w2.heap.size) e.symm; omega)) (fun e => by have := hr_G2q0 (w2.heap.size) e.symm; omega)
  have k4_1_2 : w4.cell? ⟨w2.heap.size, 2, none⟩ = some (.slice A2_2q0 k2q0 c2_2q0) := hGb4.cell (hGa4.cell k3_1_2 (fun e => by have := hr_G1q0 (w2.heap.size) e.symm; omega)) (fun e => by have := hr_G2q0 (w2.heap.size) e.symm; omega)
  have HW1q04 := lay ((HW1q03.out.grown hGa4 (fun r hr => by have := hr_G1q0 r hr; omega)).grown hGb4 (fun r hr => by have := hr_G2q0 r hr; omega))
  have HW2q04 := lay ((HW2q03.out.grown hGa4 (fun r hr => by have := hr_G1q0 r hr; omega)).grown hGb4 (fun r hr => by have := hr_G2q0 r hr; omega))
  have bl4_0 : w1.heap.size < w4.heap.size := World.block_lt_of_cell? _ _ k4_0_0
  have bl4_1 : w2.heap.size < w4.heap.size := World.block_lt_of_cell? _ _ k4_1_0
  have HG1q04 := lay hOa4
  have HG2q04 := lay hOb4
  clear hOa4 hOb4 hGa4 hGb4 hM4
  clear k3_0_0 k3_0_1 k3_0_2 k3_1_0 k3_1_1 k3_1_2 HW1q03 HW2q03 HG1q03 HG2q03
  go_wp2_with (fail)
  refine (heldTableau ?_ ?_ hk1q0 hk2q0 (by decide) (by decide)).mono ?_
  · exact HG1q04.out.rd.mono (by (repeat' (first | (with_reducible exact Below.refl _ _) | (with_reducible assumption) | (with_reducible refine Below.alloc ?_ ?_ _) | (with_reducible refine Below.drew ?_) | (with_reducible refine bdN ?_ _) | (with_reducible refine Below.setCell ?_ ?_ _) | (with_reducible refine chn ?_ (by assumption) ?_) | omega | (simp; done) | (simp; omega))))
  · exact HG2q04.out.rd.mono (by (repeat' (first | (with_reducible exact Below.refl _ _) | (with_reducible assumption) | (with_reducible refine Below.alloc ?_ ?_ _) | (with_reducible refine Below.drew ?_) | (with_reducible refine bdN ?_ _) | (with_reducible refine Below.setCell ?_ ?_ _) | (with_reducible refine chn ?_ (by assumption) ?_) | omega | (simp; done) | (simp; omega))))
  rintro ee w5 ⟨rfl, hb5⟩
  have hL5 : Below w4.heap.size w4 w5 := by (repeat' (first | (with_reducible exact Below.refl _ _) | (with_reducible assumption) | (with_reducible refine Below.alloc ?_ ?_ _) | (with_reducible refine Below.drew ?_) | (with_reducible refine bdN ?_ _) | (with_reducible refine Below.setCell ?_ ?_ _) | (with_reducible refine chn ?_ (by assumption) ?_) | omega | (simp; done) | (simp; omega)))
  have hz5 := hb5.size
  (try simp only [World.size_alloc] at hz5)
  have hB5 : Below w.heap.size w w5 := chn hB4 hL5 hB4.size
  have k5_0_0 : w5.cell? ⟨w1.heap.size, 0, none⟩ = some (.int .i64 a0q0) := (hL5.cell (p := ⟨w1.heap.size, 0, none⟩) (by show w1.heap.size < w4.heap.size; omega)).trans k4_0_0
  have k5_0_1 : w5.cell? ⟨w1.heap.size, 1, none⟩ = some (.slice A1_1q0 k1q0 c1_1q0) := (hL5.cell (p := ⟨w1.heap.size, 1, none⟩) (by show w1.heap.size < w4.heap.size; omega)).trans k4_0_1
  have k5_0_2 : w5.cell? ⟨w1.heap.size, 2, none⟩ = some (.slice A1_2q0 k2q0 c1_2q0) := (hL5.cell (p := ⟨w1.heap.size, 2, none⟩) (by show w1.heap.size < w4.heap.size; omega)).trans k4_0_2
  have k5_1_0 : w5.cell? ⟨w2.heap.size, 0, none⟩ = some (.int .i64 a0q0) := (hL5.cell (p := ⟨w2.heap.size, 0, none⟩) (by show w2.heap.size < w4.heap.size; omega)).trans k4_1_0
  have k5_1_1 : w5.cell? ⟨w2.heap.size, 1, none⟩ = some (.slice A2_1q0 k1q0 c2_1q0) := (hL5.cell (p := ⟨w2.heap.size, 1, none⟩) (by show w2.heap.size < w4.heap.size; omega)).trans k4_1_1
  have k5_1_2 : w5.cell? ⟨w2.heap.size, 2, none⟩ = some (.slice A2_2q0 k2q0 c2_2q0) := (hL5.cell (p := ⟨w2.heap.size, 2, none⟩) (by show w2.heap.size < w4.heap.size; omega)).trans k4_1_2
  have bl5_0 : w1.heap.size < w5.heap.size := World.block_lt_of_cell? _ _ k5_0_0
  have bl5_1 : w2.heap.size < w5.heap.size := World.block_lt_of_cell? _ _ k5_1_0
  have HW1q05 := lay (HW1q04.out.mono hL5)
  have HW2q05 := lay (HW2q04.out.mono hL5)
  have HG1q05 := lay (HG1q04.out.mono hL5)
  have HG2q05 := lay (HG2q04.out.mono hL5)
  clear hb5 hL5
  clear k4_0_0 k4_0_1 k4_0_2 k4_1_0 k4_1_1 k4_1_2 HW1q04 HW2q04 HG1q04 HG2q04
  go_wp2_with (fail)
  refine (HI.out _).mono ?_
  rintro ee w6 ⟨A6_1q0, c6_1q0, A6_2q0, c6_2q0, rfl, hO6_1q0, hO6_2q0, hNE6, hb6⟩
  have hL6 : Below w5.heap.size w5 w6 := by (repeat' (first | (with_reducible exact Below.refl _ _) | (with_reducible assumption) | (with_reducible refine Below.alloc ?_ ?_ _) | (with_reducible refine Below.drew ?_) | (with_reducible refine bdN ?_ _) | (with_reducible refine Below.setCell ?_ ?_ _) | (with_reducible refine chn ?_ (by assumption) ?_) | omega | (simp; done) | (simp; omega)))
  have hz6 := hb6.size
  (try simp only [World.size_alloc] at hz6)
  have hB6 : Below w.heap.size w w6 := chn hB5 hL6 hB5.size
  have k6_0_0 : w6.cell? ⟨w1.heap.size, 0, none⟩ = some (.int .i64 a0q0) := (hL6.cell (p := ⟨w1.heap.size, 0, none⟩) (by show w1.heap.size < w5.heap.size; omega)).trans k5_0_0
  have k6_0_1 : w6.cell? ⟨w1.heap.size, 1, none⟩ = some (.slice A1_1q0 k1q0 c1_1q0) := (hL6.cell (p := ⟨w1.heap.size, 1, none⟩) (by show w1.heap.size < w5.heap.size; omega)).trans k5_0_1
  have k6_0_2 : w6.cell? ⟨w1.heap.size, 2, none⟩ = some (.slice A1_2q0 k2q0 c1_2q0) := (hL6.cell (p := ⟨w1.heap.size, 2, none⟩) (by show w1.heap.size < w5.heap.size; omega)).trans k5_0_2
  have k6_1_0 : w6.cell? ⟨w2.heap.size, 0, none⟩ = some (.int .i64 a0q0) := (hL6.cell (p := ⟨w2.heap.size, 0, none⟩) (by show w2.heap.size < w5.heap.size; omega)).trans k5_1_0
  have k6_1_1 : w6.cell? ⟨w2.heap.size, 1, none⟩ = some (.slice A2_1q0 k1q0 c2_1q0) := (hL6.cell (p := ⟨w2.heap.size, 1, none⟩) (by show w2.heap.size < w5.heap.size; omega)).trans k5_1_1
  have k6_1_2 : w6.cell? ⟨w2.heap.size, 2, none⟩ = some (.slice A2_2q0 k2q0 c2_2q0) := (hL6.cell (p := ⟨w2.heap.size, 2, none⟩) (by show w2.heap.size < w5.heap.size; omega)).trans k5_1_2
  have bl6_0 : w1.heap.size < w6.heap.size := World.block_lt_of_cell? _ _ k6_0_0
  have bl6_1 : w2.heap.size < w6.heap.size := World.block_lt_of_cell? _ _ k6_1_0
  have HW1q06 := lay (HW1q05.out.mono hL6)
  have HW2q06 := lay (HW2q05.out.mono hL6)
  have HG1q06 := lay (HG1q05.out.mono hL6)
  have HG2q06 := lay (HG2q05.out.mono hL6)
  clear hb6 hL6
  clear k5_0_0 k5_0_1 k5_0_2 k5_1_0 k5_1_1 k5_1_2 HW1q05 HW2q05 HG1q05 HG2q05
  (try simp only [World.size_alloc] at hO6_1q0)
  have HH1q06 : Hid (RdB pauliE w6 w6.heap.size A6_1q0 zs1q0) := hO6_1q0.rd.b (Nat.le_refl _)
  clear hO6_1q0
  (try simp only [World.size_alloc] at hO6_2q0)
  have HH2q06 : Hid (RdB pauliE w6 w6.heap.size A6_2q0 zs2q0) := hO6_2q0.rd.b (Nat.le_refl _)
  clear hO6_2q0
  clear hNE6
  go_wp2_with (fail)
  refine (eqTableau (xs1 := zs1q0) (xs2 := zs2q0) ?_ ?_ ?_ ?_ HZ1q0.out hk1q0 HZ2q0.out hk2q0).mono ?_
  · exact HH1q06.out.rd.mono (by (repeat' (first | (with_reducible exact Below.refl _ _) | (with_reducible assumption) | (with_reducible refine Below.alloc ?_ ?_ _) | (with_reducible refine Below.drew ?_) | (with_reducible refine bdN ?_ _) | (with_reducible refine Below.setCell ?_ ?_ _) | (with_reducible refine chn ?_ (by assumption) ?_) | omega | (simp; done) | (simp; omega))))
  · exact HH2q06.out.rd.mono (by (repeat' (first | (with_reducible exact Below.refl _ _) | (with_reducible assumption) | (with_reducible refine Below.alloc ?_ ?_ _) | (with_reducible refine Below.drew ?_) | (with_reducible refine bdN ?_ _) | (with_reducible refine Below.setCell ?_ ?_ _) | (with_reducible refine chn ?_ (by assumption) ?_) | omega | (simp; done) | (simp; omega))))
  · exact HW1q06.out.rd.mono (by (repeat' (first | (with_reducible exact Below.refl _ _) | (with_reducible assumption) | (with_reducible refine Below.alloc ?_ ?_ _) | (with_reducible refine Below.drew ?_) | (with_reducible refine bdN ?_ _) | (with_reducible refine Below.setCell ?_ ?_ _) | (with_reducible refine chn ?_ (by assumption) ?_) | omega | (simp; done) | (simp; omega))))
  · exact HW2q06.out.rd.mono (by (repeat' (first | (with_reducible exact Below.refl _ _) | (with_reducible assumption) | (with_reducible refine Below.alloc ?_ ?_ _) | (with_reducible refine Below.drew ?_) | (with_reducible refine bdN ?_ _) | (with_reducible refine Below.setCell ?_ ?_ _) | (with_reducible refine chn ?_ (by assumption) ?_) | omega | (simp; done) | (simp; omega))))
  rintro ee w7 ⟨rfl, hb7⟩
  have hL7 : Below w6.heap.size w6 w7 := by (repeat' (first | (with_reducible exact Below.refl _ _) | (with_reducible assumption) | (with_reducible refine Below.alloc ?_ ?_ _) | (with_reducible refine Below.drew ?_) | (with_reducible refine bdN ?_ _) | (with_reducible refine Below.setCell ?_ ?_ _) | (with_reducible refine chn ?_ (by assumption) ?_) | omega | (simp; done) | (simp; omega)))
  have hz7 := hb7.size
  (try simp only [World.size_alloc] at hz7)
  have hB7 : Below w.heap.size w w7 := chn hB6 hL7 hB6.size
  have k7_0_0 : w7.cell? ⟨w1.heap.size, 0, none⟩ = some (.int .i64 a0q0) := (hL7.cell (p := ⟨w1.heap.size, 0, none⟩) (by show w1.heap.size < w6.heap.size; omega)).trans k6_0_0
  have k7_0_1 : w7.cell? ⟨w1.heap.size, 1, none⟩ = some (.slice A1_1q0 k1q0 c1_1q0) := (hL7.cell (p := ⟨w1.heap.size, 1, none⟩) (by show w1.heap.size < w6.heap.size; omega)).trans k6_0_1
  have k7_0_2 : w7.cell? ⟨w1.heap.size, 2, none⟩ = some (.slice A1_2q0 k2q0 c1_2q0) := (hL7.cell (p := ⟨w1.heap.size, 2, none⟩) (by show w1.heap.size < w6.heap.size; omega)).trans k6_0_2
  have k7_1_0 : w7.cell? ⟨w2.heap.size, 0, none⟩ = some (.int .i64 a0q0) := (hL7.cell (p := ⟨w2.heap.size, 0, none⟩) (by show w2.heap.size < w6.heap.size; omega)).trans k6_1_0
  have k7_1_1 : w7.cell? ⟨w2.heap.size, 1, none⟩ = some (.slice A2_1q0 k1q0 c2_1q0) := (hL7.cell (p := ⟨w2.heap.size, 1, none⟩) (by show w2.heap.size < w6.heap.size; omega)).trans k6_1_1
  have k7_1_2 : w7.cell? ⟨w2.heap.size, 2, none⟩ = some (.slice A2_2q0 k2q0 c2_2q0) := (hL7.cell (p := ⟨w2.heap.size, 2, none⟩) (by show w2.heap.size < w6.heap.size; omega)).trans k6_1_2
  have k7_2_0 : w7.cell? ⟨w6.heap.size, 0, none⟩ = some (.int .i64 a0q0) := (hb7.cell (p := ⟨w6.heap.size, 0, none⟩) (by show w6.heap.size < _; (try simp only [World.size_alloc]); omega)).trans (by first | rfl | (simp; done) | (simp [*]; done))
  have k7_2_1 : w7.cell? ⟨w6.heap.size, 1, none⟩ = some (.slice A6_1q0 k1q0 c6_1q0) := (hb7.cell (p := ⟨w6.heap.size, 1, none⟩) (by show w6.heap.size < _; (try simp only [World.size_alloc]); omega)).trans (by first | rfl | (simp; done) | (simp [*]; done))
  have k7_2_2 : w7.cell? ⟨w6.heap.size, 2, none⟩ = some (.slice A6_2q0 k2q0 c6_2q0) := (hb7.cell (p := ⟨w6.heap.size, 2, none⟩) (by show w6.heap.size < _; (try simp only [World.size_alloc]); omega)).trans (by first | rfl | (simp; done) | (simp [*]; done))
  have bl7_0 : w1.heap.size < w7.heap.size := World.block_lt_of_cell? _ _ k7_0_0
  have bl7_1 : w2.heap.size < w7.heap.size := World.block_lt_of_cell? _ _ k7_1_0
  have bl7_2 : w6.heap.size < w7.heap.size := World.block_lt_of_cell? _ _ k7_2_0
  have HW1q07 := lay (HW1q06.out.mono hL7)
  have HW2q07 := lay (HW2q06.out.mono hL7)
  have HG1q07 := lay (HG1q06.out.mono hL7)
  have HG2q07 := lay (HG2q06.out.mono hL7)
  have HH1q07 := lay (HH1q06.out.mono hL7)
  have HH2q07 := lay (HH2q06.out.mono hL7)
  clear hb7 hL7
  clear k6_0_0 k6_0_1 k6_0_2 k6_1_0 k6_1_1 k6_1_2 HW1q06 HW2q06 HG1q06 HG2q06 HH1q06 HH2q06
  go_wp2_with (fail)
  refine (heldTableau ?_ ?_ hk1q0 hk2q0 (by decide) (by decide)).mono ?_
  · exact HG1q07.out.rd.mono (by (repeat' (first | (with_reducible exact Below.refl _ _) | (with_reducible assumption) | (with_reducible refine Below.alloc ?_ ?_ _) | (with_reducible refine Below.drew ?_) | (with_reducible refine bdN ?_ _) | (with_reducible refine Below.setCell ?_ ?_ _) | (with_reducible refine chn ?_ (by assumption) ?_) | omega | (simp; done) | (simp; omega))))
  · exact HG2q07.out.rd.mono (by (repeat' (first | (with_reducible exact Below.refl _ _) | (with_reducible assumption) | (with_reducible refine Below.alloc ?_ ?_ _) | (with_reducible refine Below.drew ?_) | (with_reducible refine bdN ?_ _) | (with_reducible refine Below.setCell ?_ ?_ _) | (with_reducible refine chn ?_ (by assumption) ?_) | omega | (simp; done) | (simp; omega))))
  rintro ee w8 ⟨rfl, hb8⟩
  have hL8 : Below w7.heap.size w7 w8 := by (repeat' (first | (with_reducible exact Below.refl _ _) | (with_reducible assumption) | (with_reducible refine Below.alloc ?_ ?_ _) | (with_reducible refine Below.drew ?_) | (with_reducible refine bdN ?_ _) | (with_reducible refine Below.setCell ?_ ?_ _) | (with_reducible refine chn ?_ (by assumption) ?_) | omega | (simp; done) | (simp; omega)))
  have hz8 := hb8.size
  (try simp only [World.size_alloc] at hz8)
  have hB8 : Below w.heap.size w w8 := chn hB7 hL8 hB7.size
  have k8_0_0 : w8.cell? ⟨w1.heap.size, 0, none⟩ = some (.int .i64 a0q0) := (hL8.cell (p := ⟨w1.heap.size, 0, none⟩) (by show w1.heap.size < w7.heap.size; omega)).trans k7_0_0
  have k8_0_1 : w8.cell? ⟨w1.heap.size, 1, none⟩ = some (.slice A1_1q0 k1q0 c1_1q0) := (hL8.cell (p := ⟨w1.heap.size, 1, none⟩) (by show w1.heap.size < w7.heap.size; omega)).trans k7_0_1
  have k8_0_2 : w8.cell? ⟨w1.heap.size, 2, none⟩ = some (.slice A1_2q0 k2q0 c1_2q0) := (hL8.cell (p := ⟨w1.heap.size, 2, none⟩) (by show w1.heap.size < w7.heap.size; omega)).trans k7_0_2
  have k8_1_0 : w8.cell? ⟨w2.heap.size, 0, none⟩ = some (.int .i64 a0q0) := (hL8.cell (p := ⟨w2.heap.size, 0, none⟩) (by show w2.heap.size < w7.heap.size; omega)).trans k7_1_0
  have k8_1_1 : w8.cell? ⟨w2.heap.size, 1, none⟩ = some (.slice A2_1q0 k1q0 c2_1q0) := (hL8.cell (p := ⟨w2.heap.size, 1, none⟩) (by show w2.heap.size < w7.heap.size; omega)).trans k7_1_1
  have k8_1_2 : w8.cell? ⟨w2.heap.size, 2, none⟩ = some (.slice A2_2q0 k2q0 c2_2q0) := (hL8.cell (p := ⟨w2.heap.size, 2, none⟩) (by show w2.heap.size < w7.heap.size; omega)).trans k7_1_2
  have k8_2_0 : w8.cell? ⟨w6.heap.size, 0, none⟩ = some (.int .i64 a0q0) := (hL8.cell (p := ⟨w6.heap.size, 0, none⟩) (by show w6.heap.size < w7.heap.size; omega)).trans k7_2_0
  have k8_2_1 : w8.cell? ⟨w6.heap.size, 1, none⟩ = some (.slice A6_1q0 k1q0 c6_1q0) := (hL8.cell (p := ⟨w6.heap.size, 1, none⟩) (by show w6.heap.size < w7.heap.size; omega)).trans k7_2_1
  have k8_2_2 : w8.cell? ⟨w6.heap.size, 2, none⟩ = some (.slice A6_2q0 k2q0 c6_2q0) := (hL8.cell (p := ⟨w6.heap.size, 2, none⟩) (by show w6.heap.size < w7.heap.size; omega)).trans k7_2_2
  have bl8_0 : w1.heap.size < w8.heap.size := World.block_lt_of_cell? _ _ k8_0_0
  have bl8_1 : w2.heap.size < w8.heap.size := World.block_lt_of_cell? _ _ k8_1_0
  have bl8_2 : w6.heap.size < w8.heap.size := World.block_lt_of_cell? _ _ k8_2_0
  have HW1q08 := lay (HW1q07.out.mono hL8)
  have HW2q08 := lay (HW2q07.out.mono hL8)
  have HG1q08 := lay (HG1q07.out.mono hL8)
  have HG2q08 := lay (HG2q07.out.mono hL8)
  have HH1q08 := lay (HH1q07.out.mono hL8)
  have HH2q08 := lay (HH2q07.out.mono hL8)
  clear hb8 hL8
  clear k7_0_0 k7_0_1 k7_0_2 k7_1_0 k7_1_1 k7_1_2 k7_2_0 k7_2_1 k7_2_2 HW1q07 HW2q07 HG1q07 HG2q07 HH1q07 HH2q07
  go_wp2_with (fail)
  go_ret
  exact ⟨rfl, hB8⟩

theorem fnExactIdentityTableau_walk {i0 : Int} {w : World}  :
    Calls Try.prog 11 #[.int .i64 i0] w fun ee w' => ee = .returned (.bool true) ∧ Below w.heap.size w w' := by
  cases hq : inB i0 1 5
  · exact lwIdentityTableau (a0q0 := 0) (k1q0 := 0) (zs1q0 := []) (k2q0 := 0) (zs2q0 := []) (r1 := false) (fun w => (it_s_f hq w).mono fun ee w' h => ⟨none, 0, none, 0, h.1, ⟨Rd.nil _ _, fun a ha => by cases ha⟩, ⟨Rd.nil _ _, fun a ha => by cases ha⟩, h.2⟩) (fun w => (it_i_f hq w).mono fun ee w' h => ⟨none, 0, none, 0, h.1, Ow.none, Ow.none, (fun r h => by cases h), h.2⟩) rfl (by omega) rfl (by omega) 
  · obtain ⟨h1, h5⟩ := inB_iff.1 hq
    obtain ⟨k, rfl⟩ := Int.eq_ofNat_of_zero_le (show 0 ≤ i0 by omega)
    exact lwIdentityTableau (a0q0 := (k : Int)) (k1q0 := k) (zs1q0 := tab k genX) (k2q0 := k) (zs2q0 := tab k genZ) (r1 := true) (fun w => it_s_t (by omega) (by omega) w) (fun w => it_i_t (by omega) (by omega) w) (tab_len _ _) (by omega) (tab_len _ _) (by omega) 

end Go.Proofs.Ytgcligmpdlffoaa.C4
