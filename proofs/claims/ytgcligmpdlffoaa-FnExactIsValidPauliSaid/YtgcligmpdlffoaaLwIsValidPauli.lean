/- IsValidPauli: the walk of the law; the law at all arguments. -/
import Derived.Test.YtgcligmpdlffoaaPv
import Derived.Deep.RegionHeld3
import Derived.Deep.DeepCutAuto
namespace Go.Proofs.Ytgcligmpdlffoaa.C4
open Go.RowKit
set_option linter.unusedVariables false
set_option linter.unusedSimpArgs false
attribute [local irreducible] World.setCell

set_option maxRecDepth 100000 in
set_option maxHeartbeats 16000000 in
theorem lwIsValidPauli {i0 : Int} {x1 : PauliV} {r0 : Bool} {w : World} (hS : ∀ (w : World), Calls Try.prog 26 #[.int .i64 i0, x1.v] w fun ee w' => ee = .returned (.bool r0) ∧ Below w.heap.size w w') (hI : ∀ (w : World), Calls Try.prog 28 #[.int .i64 i0, x1.v] w fun ee w' => ee = .returned (.bool r0) ∧ Below w.heap.size w w') :
    Calls Try.prog 6 #[.int .i64 i0, x1.v] w fun ee w' => ee = .returned (.bool true) ∧ Below w.heap.size w w' := by
  have HS := lay hS
  have HI := lay hI
  clear hS hI
  go_enter Try.func6, Try.ntmps6
  go_wp2_with (fail)
  refine (toPauli x1 _).mono ?_
  rintro ee w1 ⟨rfl, hb1⟩
  have hL1 : Below w.heap.size w w1 := by (repeat' (first | (with_reducible exact Below.refl _ _) | (with_reducible assumption) | (with_reducible refine Below.alloc ?_ ?_ _) | (with_reducible refine Below.drew ?_) | (with_reducible refine bdN ?_ _) | (with_reducible refine Below.setCell ?_ ?_ _) | (with_reducible refine chn ?_ (by assumption) ?_) | omega | (simp; done) | (simp; omega)))
  have hz1 := hb1.size
  (try simp only [World.size_alloc] at hz1)
  have hB1 : Below w.heap.size w w1 := hL1
  have k1_0_0 : w1.cell? ⟨w.heap.size, 0, none⟩ = some (.int .i64 x1.f0) := (hb1.cell (p := ⟨w.heap.size, 0, none⟩) (by show w.heap.size < _; (try simp only [World.size_alloc]); omega)).trans (by first | rfl | (simp; done) | (simp [*]; done))
  have k1_0_1 : w1.cell? ⟨w.heap.size, 1, none⟩ = some (.int .i64 x1.f1) := (hb1.cell (p := ⟨w.heap.size, 1, none⟩) (by show w.heap.size < _; (try simp only [World.size_alloc]); omega)).trans (by first | rfl | (simp; done) | (simp [*]; done))
  have k1_0_2 : w1.cell? ⟨w.heap.size, 2, none⟩ = some (.int .i64 x1.f2) := (hb1.cell (p := ⟨w.heap.size, 2, none⟩) (by show w.heap.size < _; (try simp only [World.size_alloc]); omega)).trans (by first | rfl | (simp; done) | (simp [*]; done))
  have bl1_0 : w.heap.size < w1.heap.size := World.block_lt_of_cell? _ _ k1_0_0
  clear hb1 hL1
  go_wp2_with (fail)
  refine (HS.out _).mono ?_
  rintro ee w2 ⟨rfl, hb2⟩
  have hL2 : Below w1.heap.size w1 w2 := by (repeat' (first | (with_reducible exact Below.refl _ _) | (with_reducible assumption) | (with_reducible refine Below.alloc ?_ ?_ _) | (with_reducible refine Below.drew ?_) | (with_reducible refine bdN ?_ _) | (with_reducible refine Below.setCell ?_ ?_ _) | (with_reducible refine chn ?_ (by assumption) ?_) | omega | (simp; done) | (simp; omega)))
  have hz2 := hb2.size
  (try simp only [World.size_alloc] at hz2)
  have hB2 : Below w.heap.size w w2 := chn hB1 hL2 hB1.size
  have k2_0_0 : w2.cell? ⟨w.heap.size, 0, none⟩ = some (.int .i64 x1.f0) := (hL2.cell (p := ⟨w.heap.size, 0, none⟩) (by show w.heap.size < w1.heap.size; omega)).trans k1_0_0
  have k2_0_1 : w2.cell? ⟨w.heap.size, 1, none⟩ = some (.int .i64 x1.f1) := (hL2.cell (p := ⟨w.heap.size, 1, none⟩) (by show w.heap.size < w1.heap.size; omega)).trans k1_0_1
  have k2_0_2 : w2.cell? ⟨w.heap.size, 2, none⟩ = some (.int .i64 x1.f2) := (hL2.cell (p := ⟨w.heap.size, 2, none⟩) (by show w.heap.size < w1.heap.size; omega)).trans k1_0_2
  have bl2_0 : w.heap.size < w2.heap.size := World.block_lt_of_cell? _ _ k2_0_0
  clear hb2 hL2
  clear k1_0_0 k1_0_1 k1_0_2
  go_wp2_with (fail)
  refine (toPauli x1 _).mono ?_
  rintro ee w3 ⟨rfl, hb3⟩
  have hL3 : Below w2.heap.size w2 w3 := by (repeat' (first | (with_reducible exact Below.refl _ _) | (with_reducible assumption) | (with_reducible refine Below.alloc ?_ ?_ _) | (with_reducible refine Below.drew ?_) | (with_reducible refine bdN ?_ _) | (with_reducible refine Below.setCell ?_ ?_ _) | (with_reducible refine chn ?_ (by assumption) ?_) | omega | (simp; done) | (simp; omega)))
  have hz3 := hb3.size
  (try simp only [World.size_alloc] at hz3)
  have hB3 : Below w.heap.size w w3 := chn hB2 hL3 hB2.size
  have k3_0_0 : w3.cell? ⟨w.heap.size, 0, none⟩ = some (.int .i64 x1.f0) := (hL3.cell (p := ⟨w.heap.size, 0, none⟩) (by show w.heap.size < w2.heap.size; omega)).trans k2_0_0
  have k3_0_1 : w3.cell? ⟨w.heap.size, 1, none⟩ = some (.int .i64 x1.f1) := (hL3.cell (p := ⟨w.heap.size, 1, none⟩) (by show w.heap.size < w2.heap.size; omega)).trans k2_0_1
  have k3_0_2 : w3.cell? ⟨w.heap.size, 2, none⟩ = some (.int .i64 x1.f2) := (hL3.cell (p := ⟨w.heap.size, 2, none⟩) (by show w.heap.size < w2.heap.size; omega)).trans k2_0_2
  have bl3_0 : w.heap.size < w3.heap.size := World.block_lt_of_cell? _ _ k3_0_0
  clear hb3 hL3
  clear k2_0_0 k2_0_1 k2_0_2
  go_wp2_with (fail)
  refine (HI.out _).mono ?_
  rintro ee w4 ⟨rfl, hb4⟩
  have hL4 : Below w3.heap.size w3 w4 := by (repeat' (first | (with_reducible exact Below.refl _ _) | (with_reducible assumption) | (with_reducible refine Below.alloc ?_ ?_ _) | (with_reducible refine Below.drew ?_) | (with_reducible refine bdN ?_ _) | (with_reducible refine Below.setCell ?_ ?_ _) | (with_reducible refine chn ?_ (by assumption) ?_) | omega | (simp; done) | (simp; omega)))
  have hz4 := hb4.size
  (try simp only [World.size_alloc] at hz4)
  have hB4 : Below w.heap.size w w4 := chn hB3 hL4 hB3.size
  have k4_0_0 : w4.cell? ⟨w.heap.size, 0, none⟩ = some (.int .i64 x1.f0) := (hL4.cell (p := ⟨w.heap.size, 0, none⟩) (by show w.heap.size < w3.heap.size; omega)).trans k3_0_0
  have k4_0_1 : w4.cell? ⟨w.heap.size, 1, none⟩ = some (.int .i64 x1.f1) := (hL4.cell (p := ⟨w.heap.size, 1, none⟩) (by show w.heap.size < w3.heap.size; omega)).trans k3_0_1
  have k4_0_2 : w4.cell? ⟨w.heap.size, 2, none⟩ = some (.int .i64 x1.f2) := (hL4.cell (p := ⟨w.heap.size, 2, none⟩) (by show w.heap.size < w3.heap.size; omega)).trans k3_0_2
  have bl4_0 : w.heap.size < w4.heap.size := World.block_lt_of_cell? _ _ k4_0_0
  clear hb4 hL4
  clear k3_0_0 k3_0_1 k3_0_2
  go_wp2_with (fail)
  go_ret
  exact ⟨rfl, hB4⟩

theorem fnExactIsValidPauli_walk {i0 : Int} {x1 : PauliV} {w : World}  :
    Calls Try.prog 6 #[.int .i64 i0, x1.v] w fun ee w' => ee = .returned (.bool true) ∧ Below w.heap.size w w' := by
  exact lwIsValidPauli (r0 := pB i0 x1) (fun w => svp rfl w) (fun w => ivp rfl w) 

end Go.Proofs.Ytgcligmpdlffoaa.C4
