/- The walk of the law on IdentityMatrix. -/
import Derived.Test.YtdgcanlbdneelaaIdn
import Derived.Test.YtdgcanlbdneelaaAddI3
import Derived.Test.YtdgcanlbdneelaaVm2
import Derived.Test.YtdgcanlbdneelaaCutG
import Derived.Test.YtdgcanlbdneelaaTab
namespace Go.Proofs.Ytdgcanlbdneelaa
open Go.RowKit RM
set_option linter.unusedVariables false
set_option linter.unusedSimpArgs false
attribute [local irreducible] World.setCell

set_option maxRecDepth 100000 in
set_option maxHeartbeats 16000000 in
theorem lwIdentityMatrix {N R : Int} {k : Nat} {zs : List D5} {ok : Bool} {w : World} (hS : ∀ (w : World), Calls Try.prog 32 #[.int .i64 N] w fun ee w' => ∃ A cp, ee = .returned (mt R R A k cp ok) ∧ (Rd w' A zs ∧ (∀ a, A = some a → w.heap.size ≤ a.block)) ∧ Below w.heap.size w w') (hI : ∀ (w : World), Calls Try.prog 22 #[.int .i64 N] w fun ee w' => ∃ A cp, ee = .returned (mt R R A k cp ok) ∧ (Ow w' w.heap.size 37 A zs) ∧ Below w.heap.size w w') (hz : zs.length = k) (hk : k ≤ 1048576) :
    Calls Try.prog 6 #[.int .i64 N] w fun ee w' => ee = .returned (.bool true) ∧ Below w.heap.size w w' := by
  have HS := hid hS
  have HI := hid hI
  have HZ := hid hz
  have u0 : ¬ (1 + 5 * (k : Int) < 0) := by omega
  have u1 : 0 ≤ 1 + 5 * (k : Int) := by omega
  clear hS hI hz
  go_enter Try.func6, Try.ntmps6
  go_wp2_with (fail)
  refine (HS.out _).mono ?_
  rintro ee w1 ⟨A3, cp3, rfl, ⟨hR3, hA3⟩, hb1⟩
  have hL1 : Below w.heap.size w w1 := by (repeat' (first | (with_reducible exact Below.refl _ _) | (with_reducible assumption) | (with_reducible refine Below.alloc ?_ ?_ _) | (with_reducible refine Below.drew ?_) | (with_reducible refine below_drewN ?_ _) | (with_reducible refine Below.setCell ?_ ?_ _) | (with_reducible refine chain ?_ (by assumption) ?_) | omega | (simp; done) | (simp; omega)))
  have hz1 := hb1.size
  (try simp only [World.size_alloc] at hz1)
  have hB1 : Below w.heap.size w w1 := hL1
  clear hb1 hL1
  have HW1 : Hid (RdB w1 w1.heap.size A3 zs) := hR3.b (Nat.le_refl _)
  clear hR3 hA3
  go_wp2_with (fail)
  refine (HI.out _).mono ?_
  rintro ee w2 ⟨A6, cp6, rfl, hO6, hb2⟩
  have hL2 : Below w1.heap.size w1 w2 := by (repeat' (first | (with_reducible exact Below.refl _ _) | (with_reducible assumption) | (with_reducible refine Below.alloc ?_ ?_ _) | (with_reducible refine Below.drew ?_) | (with_reducible refine below_drewN ?_ _) | (with_reducible refine Below.setCell ?_ ?_ _) | (with_reducible refine chain ?_ (by assumption) ?_) | omega | (simp; done) | (simp; omega)))
  have hz2 := hb2.size
  (try simp only [World.size_alloc] at hz2)
  have hB2 : Below w.heap.size w w2 := chain hB1 hL2 hB1.size
  have k2_0_0 : w2.cell? ⟨w1.heap.size, 0, none⟩ = some (.int .i64 R) := (hb2.cell (p := ⟨w1.heap.size, 0, none⟩) (by show w1.heap.size < _; (try simp only [World.size_alloc]); omega)).trans (by first | rfl | (simp; done) | (simp [*]; done))
  have k2_0_1 : w2.cell? ⟨w1.heap.size, 1, none⟩ = some (.int .i64 R) := (hb2.cell (p := ⟨w1.heap.size, 1, none⟩) (by show w1.heap.size < _; (try simp only [World.size_alloc]); omega)).trans (by first | rfl | (simp; done) | (simp [*]; done))
  have k2_0_2 : w2.cell? ⟨w1.heap.size, 2, none⟩ = some (.slice A3 k cp3) := (hb2.cell (p := ⟨w1.heap.size, 2, none⟩) (by show w1.heap.size < _; (try simp only [World.size_alloc]); omega)).trans (by first | rfl | (simp; done) | (simp [*]; done))
  have bl2_0 : w1.heap.size < w2.heap.size := World.block_lt_of_cell? _ _ k2_0_0
  have HW2 := hid (HW1.out.mono hL2)
  clear hb2 hL2
  clear HW1
  (try simp only [World.size_alloc] at hO6)
  have HG2 : Hid (Ow w2 (w1.heap.size + 1) 37 A6 zs) := hO6.dn (by omega)
  clear hO6
  have hr_G := HG2.out.row
  go_wp2_with (fail)
  refine (eqm (xs := zs) ?_ ?_ HZ.out hk).mono ?_
  · exact HG2.out.rd.mono (by (repeat' (first | (with_reducible exact Below.refl _ _) | (with_reducible assumption) | (with_reducible refine Below.alloc ?_ ?_ _) | (with_reducible refine Below.drew ?_) | (with_reducible refine below_drewN ?_ _) | (with_reducible refine Below.setCell ?_ ?_ _) | (with_reducible refine chain ?_ (by assumption) ?_) | omega | (simp; done) | (simp; omega))))
  · exact HW2.out.rd.mono (by (repeat' (first | (with_reducible exact Below.refl _ _) | (with_reducible assumption) | (with_reducible refine Below.alloc ?_ ?_ _) | (with_reducible refine Below.drew ?_) | (with_reducible refine below_drewN ?_ _) | (with_reducible refine Below.setCell ?_ ?_ _) | (with_reducible refine chain ?_ (by assumption) ?_) | omega | (simp; done) | (simp; omega))))
  rintro ee w3 ⟨rfl, hb3⟩
  have hL3 : Below w2.heap.size w2 w3 := by (repeat' (first | (with_reducible exact Below.refl _ _) | (with_reducible assumption) | (with_reducible refine Below.alloc ?_ ?_ _) | (with_reducible refine Below.drew ?_) | (with_reducible refine below_drewN ?_ _) | (with_reducible refine Below.setCell ?_ ?_ _) | (with_reducible refine chain ?_ (by assumption) ?_) | omega | (simp; done) | (simp; omega)))
  have hz3 := hb3.size
  (try simp only [World.size_alloc] at hz3)
  have hB3 : Below w.heap.size w w3 := chain hB2 hL3 hB2.size
  have k3_0_0 : w3.cell? ⟨w1.heap.size, 0, none⟩ = some (.int .i64 R) := (hL3.cell (p := ⟨w1.heap.size, 0, none⟩) (by show w1.heap.size < w2.heap.size; omega)).trans k2_0_0
  have k3_0_1 : w3.cell? ⟨w1.heap.size, 1, none⟩ = some (.int .i64 R) := (hL3.cell (p := ⟨w1.heap.size, 1, none⟩) (by show w1.heap.size < w2.heap.size; omega)).trans k2_0_1
  have k3_0_2 : w3.cell? ⟨w1.heap.size, 2, none⟩ = some (.slice A3 k cp3) := (hL3.cell (p := ⟨w1.heap.size, 2, none⟩) (by show w1.heap.size < w2.heap.size; omega)).trans k2_0_2
  have k3_1_0 : w3.cell? ⟨w2.heap.size, 0, none⟩ = some (.int .i64 R) := (hb3.cell (p := ⟨w2.heap.size, 0, none⟩) (by show w2.heap.size < _; (try simp only [World.size_alloc]); omega)).trans (by first | rfl | (simp; done) | (simp [*]; done))
  have k3_1_1 : w3.cell? ⟨w2.heap.size, 1, none⟩ = some (.int .i64 R) := (hb3.cell (p := ⟨w2.heap.size, 1, none⟩) (by show w2.heap.size < _; (try simp only [World.size_alloc]); omega)).trans (by first | rfl | (simp; done) | (simp [*]; done))
  have k3_1_2 : w3.cell? ⟨w2.heap.size, 2, none⟩ = some (.slice A6 k cp6) := (hb3.cell (p := ⟨w2.heap.size, 2, none⟩) (by show w2.heap.size < _; (try simp only [World.size_alloc]); omega)).trans (by first | rfl | (simp; done) | (simp [*]; done))
  have bl3_0 : w1.heap.size < w3.heap.size := World.block_lt_of_cell? _ _ k3_0_0
  have bl3_1 : w2.heap.size < w3.heap.size := World.block_lt_of_cell? _ _ k3_1_0
  have HW3 := hid (HW2.out.mono hL3)
  have HG3 := hid (HG2.out.mono hL3)
  clear hb3 hL3
  clear k2_0_0 k2_0_1 k2_0_2 HW2 HG2
  go_wp2_with (fail)
  refine (mkm (B := w1.heap.size + 1) (xs := zs) ?_ HZ.out hk (by decide) (by decide)).mono ?_
  · exact HG3.out
  rintro ee w4 ⟨rfl, hO4, hG4⟩
  have hz4 := hG4.size
  have hB4 : Below w.heap.size w w4 := Below.grown hB3 hG4 hB3.size (fun r hr => by have := hr_G r hr; omega)
  have k4_0_0 : w4.cell? ⟨w1.heap.size, 0, none⟩ = some (.int .i64 R) := hG4.cell k3_0_0 (fun e => by have := hr_G (w1.heap.size) e.symm; omega)
  have k4_0_1 : w4.cell? ⟨w1.heap.size, 1, none⟩ = some (.int .i64 R) := hG4.cell k3_0_1 (fun e => by have := hr_G (w1.heap.size) e.symm; omega)
  have k4_0_2 : w4.cell? ⟨w1.heap.size, 2, none⟩ = some (.slice A3 k cp3) := hG4.cell k3_0_2 (fun e => by have := hr_G (w1.heap.size) e.symm; omega)
  have k4_1_0 : w4.cell? ⟨w2.heap.size, 0, none⟩ = some (.int .i64 R) := hG4.cell k3_1_0 (fun e => by have := hr_G (w2.heap.size) e.symm; omega)
  have k4_1_1 : w4.cell? ⟨w2.heap.size, 1, none⟩ = some (.int .i64 R) := hG4.cell k3_1_1 (fun e => by have := hr_G (w2.heap.size) e.symm; omega)
  have k4_1_2 : w4.cell? ⟨w2.heap.size, 2, none⟩ = some (.slice A6 k cp6) := hG4.cell k3_1_2 (fun e => by have := hr_G (w2.heap.size) e.symm; omega)
  have HW4 := hid (HW3.out.grown hG4 (fun r hr => by have := hr_G r hr; omega))
  have bl4_0 : w1.heap.size < w4.heap.size := World.block_lt_of_cell? _ _ k4_0_0
  have bl4_1 : w2.heap.size < w4.heap.size := World.block_lt_of_cell? _ _ k4_1_0
  have HG4 := hid hO4
  clear hO4 hG4
  clear k3_0_0 k3_0_1 k3_0_2 k3_1_0 k3_1_1 k3_1_2 HW3 HG3
  go_wp2_with (fail)
  refine (hdm ?_ hk (by decide) (by decide)).mono ?_
  · exact HG4.out.rd.mono (by (repeat' (first | (with_reducible exact Below.refl _ _) | (with_reducible assumption) | (with_reducible refine Below.alloc ?_ ?_ _) | (with_reducible refine Below.drew ?_) | (with_reducible refine below_drewN ?_ _) | (with_reducible refine Below.setCell ?_ ?_ _) | (with_reducible refine chain ?_ (by assumption) ?_) | omega | (simp; done) | (simp; omega))))
  rintro ee w5 ⟨rfl, hb5⟩
  have hL5 : Below w4.heap.size w4 w5 := by (repeat' (first | (with_reducible exact Below.refl _ _) | (with_reducible assumption) | (with_reducible refine Below.alloc ?_ ?_ _) | (with_reducible refine Below.drew ?_) | (with_reducible refine below_drewN ?_ _) | (with_reducible refine Below.setCell ?_ ?_ _) | (with_reducible refine chain ?_ (by assumption) ?_) | omega | (simp; done) | (simp; omega)))
  have hz5 := hb5.size
  (try simp only [World.size_alloc] at hz5)
  have hB5 : Below w.heap.size w w5 := chain hB4 hL5 hB4.size
  have k5_0_0 : w5.cell? ⟨w1.heap.size, 0, none⟩ = some (.int .i64 R) := (hL5.cell (p := ⟨w1.heap.size, 0, none⟩) (by show w1.heap.size < w4.heap.size; omega)).trans k4_0_0
  have k5_0_1 : w5.cell? ⟨w1.heap.size, 1, none⟩ = some (.int .i64 R) := (hL5.cell (p := ⟨w1.heap.size, 1, none⟩) (by show w1.heap.size < w4.heap.size; omega)).trans k4_0_1
  have k5_0_2 : w5.cell? ⟨w1.heap.size, 2, none⟩ = some (.slice A3 k cp3) := (hL5.cell (p := ⟨w1.heap.size, 2, none⟩) (by show w1.heap.size < w4.heap.size; omega)).trans k4_0_2
  have k5_1_0 : w5.cell? ⟨w2.heap.size, 0, none⟩ = some (.int .i64 R) := (hL5.cell (p := ⟨w2.heap.size, 0, none⟩) (by show w2.heap.size < w4.heap.size; omega)).trans k4_1_0
  have k5_1_1 : w5.cell? ⟨w2.heap.size, 1, none⟩ = some (.int .i64 R) := (hL5.cell (p := ⟨w2.heap.size, 1, none⟩) (by show w2.heap.size < w4.heap.size; omega)).trans k4_1_1
  have k5_1_2 : w5.cell? ⟨w2.heap.size, 2, none⟩ = some (.slice A6 k cp6) := (hL5.cell (p := ⟨w2.heap.size, 2, none⟩) (by show w2.heap.size < w4.heap.size; omega)).trans k4_1_2
  have bl5_0 : w1.heap.size < w5.heap.size := World.block_lt_of_cell? _ _ k5_0_0
  have bl5_1 : w2.heap.size < w5.heap.size := World.block_lt_of_cell? _ _ k5_1_0
  have HW5 := hid (HW4.out.mono hL5)
  have HG5 := hid (HG4.out.mono hL5)
  clear hb5 hL5
  clear k4_0_0 k4_0_1 k4_0_2 k4_1_0 k4_1_1 k4_1_2 HW4 HG4
  go_wp2_with (fail)
  refine (HI.out _).mono ?_
  rintro ee w6 ⟨A13, cp13, rfl, hO13, hb6⟩
  have hL6 : Below w5.heap.size w5 w6 := by (repeat' (first | (with_reducible exact Below.refl _ _) | (with_reducible assumption) | (with_reducible refine Below.alloc ?_ ?_ _) | (with_reducible refine Below.drew ?_) | (with_reducible refine below_drewN ?_ _) | (with_reducible refine Below.setCell ?_ ?_ _) | (with_reducible refine chain ?_ (by assumption) ?_) | omega | (simp; done) | (simp; omega)))
  have hz6 := hb6.size
  (try simp only [World.size_alloc] at hz6)
  have hB6 : Below w.heap.size w w6 := chain hB5 hL6 hB5.size
  have k6_0_0 : w6.cell? ⟨w1.heap.size, 0, none⟩ = some (.int .i64 R) := (hL6.cell (p := ⟨w1.heap.size, 0, none⟩) (by show w1.heap.size < w5.heap.size; omega)).trans k5_0_0
  have k6_0_1 : w6.cell? ⟨w1.heap.size, 1, none⟩ = some (.int .i64 R) := (hL6.cell (p := ⟨w1.heap.size, 1, none⟩) (by show w1.heap.size < w5.heap.size; omega)).trans k5_0_1
  have k6_0_2 : w6.cell? ⟨w1.heap.size, 2, none⟩ = some (.slice A3 k cp3) := (hL6.cell (p := ⟨w1.heap.size, 2, none⟩) (by show w1.heap.size < w5.heap.size; omega)).trans k5_0_2
  have k6_1_0 : w6.cell? ⟨w2.heap.size, 0, none⟩ = some (.int .i64 R) := (hL6.cell (p := ⟨w2.heap.size, 0, none⟩) (by show w2.heap.size < w5.heap.size; omega)).trans k5_1_0
  have k6_1_1 : w6.cell? ⟨w2.heap.size, 1, none⟩ = some (.int .i64 R) := (hL6.cell (p := ⟨w2.heap.size, 1, none⟩) (by show w2.heap.size < w5.heap.size; omega)).trans k5_1_1
  have k6_1_2 : w6.cell? ⟨w2.heap.size, 2, none⟩ = some (.slice A6 k cp6) := (hL6.cell (p := ⟨w2.heap.size, 2, none⟩) (by show w2.heap.size < w5.heap.size; omega)).trans k5_1_2
  have bl6_0 : w1.heap.size < w6.heap.size := World.block_lt_of_cell? _ _ k6_0_0
  have bl6_1 : w2.heap.size < w6.heap.size := World.block_lt_of_cell? _ _ k6_1_0
  have HW6 := hid (HW5.out.mono hL6)
  have HG6 := hid (HG5.out.mono hL6)
  clear hb6 hL6
  clear k5_0_0 k5_0_1 k5_0_2 k5_1_0 k5_1_1 k5_1_2 HW5 HG5
  have HH6 := hid hO13.rd
  clear hO13
  go_wp2_with (fail)
  refine (eqm (xs := zs) ?_ ?_ HZ.out hk).mono ?_
  · exact HH6.out.mono (by (repeat' (first | (with_reducible exact Below.refl _ _) | (with_reducible assumption) | (with_reducible refine Below.alloc ?_ ?_ _) | (with_reducible refine Below.drew ?_) | (with_reducible refine below_drewN ?_ _) | (with_reducible refine Below.setCell ?_ ?_ _) | (with_reducible refine chain ?_ (by assumption) ?_) | omega | (simp; done) | (simp; omega))))
  · exact HW6.out.rd.mono (by (repeat' (first | (with_reducible exact Below.refl _ _) | (with_reducible assumption) | (with_reducible refine Below.alloc ?_ ?_ _) | (with_reducible refine Below.drew ?_) | (with_reducible refine below_drewN ?_ _) | (with_reducible refine Below.setCell ?_ ?_ _) | (with_reducible refine chain ?_ (by assumption) ?_) | omega | (simp; done) | (simp; omega))))
  rintro ee w7 ⟨rfl, hb7⟩
  have hL7 : Below w6.heap.size w6 w7 := by (repeat' (first | (with_reducible exact Below.refl _ _) | (with_reducible assumption) | (with_reducible refine Below.alloc ?_ ?_ _) | (with_reducible refine Below.drew ?_) | (with_reducible refine below_drewN ?_ _) | (with_reducible refine Below.setCell ?_ ?_ _) | (with_reducible refine chain ?_ (by assumption) ?_) | omega | (simp; done) | (simp; omega)))
  have hz7 := hb7.size
  (try simp only [World.size_alloc] at hz7)
  have hB7 : Below w.heap.size w w7 := chain hB6 hL7 hB6.size
  have k7_0_0 : w7.cell? ⟨w1.heap.size, 0, none⟩ = some (.int .i64 R) := (hL7.cell (p := ⟨w1.heap.size, 0, none⟩) (by show w1.heap.size < w6.heap.size; omega)).trans k6_0_0
  have k7_0_1 : w7.cell? ⟨w1.heap.size, 1, none⟩ = some (.int .i64 R) := (hL7.cell (p := ⟨w1.heap.size, 1, none⟩) (by show w1.heap.size < w6.heap.size; omega)).trans k6_0_1
  have k7_0_2 : w7.cell? ⟨w1.heap.size, 2, none⟩ = some (.slice A3 k cp3) := (hL7.cell (p := ⟨w1.heap.size, 2, none⟩) (by show w1.heap.size < w6.heap.size; omega)).trans k6_0_2
  have k7_1_0 : w7.cell? ⟨w2.heap.size, 0, none⟩ = some (.int .i64 R) := (hL7.cell (p := ⟨w2.heap.size, 0, none⟩) (by show w2.heap.size < w6.heap.size; omega)).trans k6_1_0
  have k7_1_1 : w7.cell? ⟨w2.heap.size, 1, none⟩ = some (.int .i64 R) := (hL7.cell (p := ⟨w2.heap.size, 1, none⟩) (by show w2.heap.size < w6.heap.size; omega)).trans k6_1_1
  have k7_1_2 : w7.cell? ⟨w2.heap.size, 2, none⟩ = some (.slice A6 k cp6) := (hL7.cell (p := ⟨w2.heap.size, 2, none⟩) (by show w2.heap.size < w6.heap.size; omega)).trans k6_1_2
  have k7_2_0 : w7.cell? ⟨w6.heap.size, 0, none⟩ = some (.int .i64 R) := (hb7.cell (p := ⟨w6.heap.size, 0, none⟩) (by show w6.heap.size < _; (try simp only [World.size_alloc]); omega)).trans (by first | rfl | (simp; done) | (simp [*]; done))
  have k7_2_1 : w7.cell? ⟨w6.heap.size, 1, none⟩ = some (.int .i64 R) := (hb7.cell (p := ⟨w6.heap.size, 1, none⟩) (by show w6.heap.size < _; (try simp only [World.size_alloc]); omega)).trans (by first | rfl | (simp; done) | (simp [*]; done))
  have k7_2_2 : w7.cell? ⟨w6.heap.size, 2, none⟩ = some (.slice A13 k cp13) := (hb7.cell (p := ⟨w6.heap.size, 2, none⟩) (by show w6.heap.size < _; (try simp only [World.size_alloc]); omega)).trans (by first | rfl | (simp; done) | (simp [*]; done))
  have bl7_0 : w1.heap.size < w7.heap.size := World.block_lt_of_cell? _ _ k7_0_0
  have bl7_1 : w2.heap.size < w7.heap.size := World.block_lt_of_cell? _ _ k7_1_0
  have bl7_2 : w6.heap.size < w7.heap.size := World.block_lt_of_cell? _ _ k7_2_0
  have HW7 := hid (HW6.out.mono hL7)
  have HG7 := hid (HG6.out.mono hL7)
  clear hb7 hL7
  clear k6_0_0 k6_0_1 k6_0_2 k6_1_0 k6_1_1 k6_1_2 HW6 HG6
  go_wp2_with (fail)
  refine (hdm ?_ hk (by decide) (by decide)).mono ?_
  · exact HG7.out.rd.mono (by (repeat' (first | (with_reducible exact Below.refl _ _) | (with_reducible assumption) | (with_reducible refine Below.alloc ?_ ?_ _) | (with_reducible refine Below.drew ?_) | (with_reducible refine below_drewN ?_ _) | (with_reducible refine Below.setCell ?_ ?_ _) | (with_reducible refine chain ?_ (by assumption) ?_) | omega | (simp; done) | (simp; omega))))
  rintro ee w8 ⟨rfl, hb8⟩
  have hL8 : Below w7.heap.size w7 w8 := by (repeat' (first | (with_reducible exact Below.refl _ _) | (with_reducible assumption) | (with_reducible refine Below.alloc ?_ ?_ _) | (with_reducible refine Below.drew ?_) | (with_reducible refine below_drewN ?_ _) | (with_reducible refine Below.setCell ?_ ?_ _) | (with_reducible refine chain ?_ (by assumption) ?_) | omega | (simp; done) | (simp; omega)))
  have hz8 := hb8.size
  (try simp only [World.size_alloc] at hz8)
  have hB8 : Below w.heap.size w w8 := chain hB7 hL8 hB7.size
  have k8_0_0 : w8.cell? ⟨w1.heap.size, 0, none⟩ = some (.int .i64 R) := (hL8.cell (p := ⟨w1.heap.size, 0, none⟩) (by show w1.heap.size < w7.heap.size; omega)).trans k7_0_0
  have k8_0_1 : w8.cell? ⟨w1.heap.size, 1, none⟩ = some (.int .i64 R) := (hL8.cell (p := ⟨w1.heap.size, 1, none⟩) (by show w1.heap.size < w7.heap.size; omega)).trans k7_0_1
  have k8_0_2 : w8.cell? ⟨w1.heap.size, 2, none⟩ = some (.slice A3 k cp3) := (hL8.cell (p := ⟨w1.heap.size, 2, none⟩) (by show w1.heap.size < w7.heap.size; omega)).trans k7_0_2
  have k8_1_0 : w8.cell? ⟨w2.heap.size, 0, none⟩ = some (.int .i64 R) := (hL8.cell (p := ⟨w2.heap.size, 0, none⟩) (by show w2.heap.size < w7.heap.size; omega)).trans k7_1_0
  have k8_1_1 : w8.cell? ⟨w2.heap.size, 1, none⟩ = some (.int .i64 R) := (hL8.cell (p := ⟨w2.heap.size, 1, none⟩) (by show w2.heap.size < w7.heap.size; omega)).trans k7_1_1
  have k8_1_2 : w8.cell? ⟨w2.heap.size, 2, none⟩ = some (.slice A6 k cp6) := (hL8.cell (p := ⟨w2.heap.size, 2, none⟩) (by show w2.heap.size < w7.heap.size; omega)).trans k7_1_2
  have k8_2_0 : w8.cell? ⟨w6.heap.size, 0, none⟩ = some (.int .i64 R) := (hL8.cell (p := ⟨w6.heap.size, 0, none⟩) (by show w6.heap.size < w7.heap.size; omega)).trans k7_2_0
  have k8_2_1 : w8.cell? ⟨w6.heap.size, 1, none⟩ = some (.int .i64 R) := (hL8.cell (p := ⟨w6.heap.size, 1, none⟩) (by show w6.heap.size < w7.heap.size; omega)).trans k7_2_1
  have k8_2_2 : w8.cell? ⟨w6.heap.size, 2, none⟩ = some (.slice A13 k cp13) := (hL8.cell (p := ⟨w6.heap.size, 2, none⟩) (by show w6.heap.size < w7.heap.size; omega)).trans k7_2_2
  have bl8_0 : w1.heap.size < w8.heap.size := World.block_lt_of_cell? _ _ k8_0_0
  have bl8_1 : w2.heap.size < w8.heap.size := World.block_lt_of_cell? _ _ k8_1_0
  have bl8_2 : w6.heap.size < w8.heap.size := World.block_lt_of_cell? _ _ k8_2_0
  have HW8 := hid (HW7.out.mono hL8)
  have HG8 := hid (HG7.out.mono hL8)
  clear hb8 hL8
  clear k7_0_0 k7_0_1 k7_0_2 k7_1_0 k7_1_1 k7_1_2 k7_2_0 k7_2_1 k7_2_2 HW7 HG7
  go_wp2_with (fail)
  go_ret
  exact ⟨rfl, hB8⟩

theorem fnExactIdentityMatrix_walk {n : Int} {w : World} :
    Calls Try.prog 6 #[.int .i64 n] w fun ee w' => ee = .returned (.bool true) ∧ Below w.heap.size w w' := by
  cases hd : dimB n
  · exact lwIdentityMatrix (R := 0) (k := 0) (zs := []) (ok := false) (fun w => (id_s_f hd).mono fun ee w' h => zero_law h) (fun w => (id_i_f hd).mono fun ee w' h => zero_lawI h) rfl (by omega)
  · have hn := dimB_cases hd
    obtain ⟨N, rfl⟩ : ∃ N : Nat, n = (N : Int) := ⟨n.toNat, by omega⟩
    have h1 : 1 ≤ N := by omega
    have h2 : N ≤ 32 := by omega
    have h5 : N * N ≤ 1024 := Nat.mul_le_mul h2 h2
    exact lwIdentityMatrix (R := (N : Int)) (k := N * N) (zs := tab (N * N) (unitP N N)) (ok := true)
      (fun w => (id_s_t hd rfl h1 h2 h5).mono fun ee w' ⟨g, he, hk, hg, hb⟩ => ⟨_, _, he, ⟨hk.rd, fun a ha => by obtain rfl := Option.some.inj ha; exact hg⟩, hb⟩)
      (fun w => (id_i_t hd rfl h1 h2 h5).mono fun ee w' ⟨g, he, hk, hg, hb⟩ => ⟨_, _, he, hk.ow hg, hb⟩)
      (tab_len _ _) (by omega)

end Go.Proofs.Ytdgcanlbdneelaa
