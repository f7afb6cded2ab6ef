/- SameClifford: the walk of the law; the law at all arguments. -/
import Derived.Test.YtjedpeoafpljhaaE8s
import Derived.Test.YtjedpeoafpljhaaQCirc
import Derived.Deep.RegionHeld3
import Derived.Deep.DeepCutAuto
namespace Go.Proofs.Ytjedpeoafpljhaa.C4
open Go.RowKit
set_option linter.unusedVariables false
set_option linter.unusedSimpArgs false
attribute [local irreducible] World.setCell

set_option maxRecDepth 100000 in
set_option maxHeartbeats 4000000 in
theorem bigSameClifford0 {a0p0 : Int} {A1p0 : Option Addr} {n1p0 c1p0 : Nat} {a0p1 : Int} {A1p1 : Option Addr} {n1p1 c1p1 : Nat} {w : World} (hb : 1048576 < (n1p0 : Int)) (hmn1p0 : n1p0 ≤ maxLen) :
    Calls Try.prog 7 #[(circuitV a0p0 A1p0 n1p0 c1p0), (circuitV a0p1 A1p1 n1p1 c1p1)] w fun ee w' => ee = .returned (.bool true) ∧ Below w.heap.size w w' := by
  have hb0 : 1048576 < (n1p0 : Int) := by omega
  have hb1 : 1048576 ≤ (1048576 : Int) := by omega
  have hb2 : (0 : Int) ≤ 1048576 := by omega
  go_enter Try.func7, Try.ntmps7
  go_wp2_with (fail)
  refine (szCircuit_f hb0 hb1 hb2 hmn1p0).mono ?_
  rintro ee v ⟨rfl, hv⟩
  go_wp2_with (fail)
  go_ret
  refine ⟨rfl, ?_⟩
  (repeat' (first | (with_reducible exact Below.refl _ _) | (with_reducible assumption) | (with_reducible refine Below.alloc ?_ ?_ _) | (with_reducible refine Below.drew ?_) | (with_reducible refine bdN ?_ _) | (with_reducible refine Below.setCell ?_ ?_ _) | (with_reducible refine chn ?_ (by assumption) ?_) | omega | (simp; done) | (simp; omega)))

set_option maxRecDepth 100000 in
set_option maxHeartbeats 4000000 in
theorem bigSameClifford1 {a0p0 : Int} {A1p0 : Option Addr} {n1p0 c1p0 : Nat} {a0p1 : Int} {A1p1 : Option Addr} {n1p1 c1p1 : Nat} {w : World} (h0 : (n1p0 : Int) ≤ 1048576) (hb : 1048576 - (n1p0 : Int) < (n1p1 : Int)) (hmn1p1 : n1p1 ≤ maxLen) :
    Calls Try.prog 7 #[(circuitV a0p0 A1p0 n1p0 c1p0), (circuitV a0p1 A1p1 n1p1 c1p1)] w fun ee w' => ee = .returned (.bool true) ∧ Below w.heap.size w w' := by
  have s0_0 : (n1p0 : Int) ≤ 1048576 := by omega
  have t0 : 1048576 ≤ (1048576 : Int) := by omega
  have m0 : ¬ (1048576 - (n1p0 : Int) < 0) := by omega
  have hb0 : 1048576 - (n1p0 : Int) < (n1p1 : Int) := by omega
  have hb1 : 1048576 - (n1p0 : Int) ≤ (1048576 : Int) := by omega
  have hb2 : (0 : Int) ≤ 1048576 - (n1p0 : Int) := by omega
  go_enter Try.func7, Try.ntmps7
  go_wp2_with (fail)
  refine (szCircuit_t s0_0 t0).mono ?_
  rintro ee w1 ⟨rfl, hb_1⟩
  obtain ⟨hc1, hf1, _⟩ := bcl hb_1
  have hz1 := hb_1.size
  (try simp at hz1)
  (try have hx10 : w.heap.size < w1.heap.size := (by omega))
  (try have hx11 : w.heap.size + 1 < w1.heap.size := (by omega))
  (try have hx12 : w.heap.size + 1 + 1 < w1.heap.size := (by omega))
  (try have hx13 : w.heap.size + 1 + 1 + 1 < w1.heap.size := (by omega))
  (try have hx14 : w.heap.size + 1 + 1 + 1 + 1 < w1.heap.size := (by omega))
  go_wp2_with (fail)
  refine (szCircuit_f hb0 hb1 hb2 hmn1p1).mono ?_
  rintro ee v ⟨rfl, hv⟩
  go_wp2_with (fail)
  go_ret
  refine ⟨rfl, ?_⟩
  (repeat' (first | (with_reducible exact Below.refl _ _) | (with_reducible assumption) | (with_reducible refine Below.alloc ?_ ?_ _) | (with_reducible refine Below.drew ?_) | (with_reducible refine bdN ?_ _) | (with_reducible refine Below.setCell ?_ ?_ _) | (with_reducible refine chn ?_ (by assumption) ?_) | omega | (simp; done) | (simp; omega)))

set_option maxRecDepth 100000 in
set_option maxHeartbeats 16000000 in
theorem lwSameClifford {a0p0 : Int} {A1p0 : Option Addr} {n1p0 c1p0 : Nat} {xs1p0 : List GateV} {a0p1 : Int} {A1p1 : Option Addr} {n1p1 c1p1 : Nat} {xs1p1 : List GateV} {r0 : Bool} {r1 : Bool} {w : World} (hS : ∀ (g1p0 g1p1 : Nat) (w : World), Rd gateE w (some ⟨g1p0, 0, none⟩) xs1p0 → Rd gateE w (some ⟨g1p1, 0, none⟩) xs1p1 → Calls Try.prog 42 #[circuitV a0p0 (some ⟨g1p0, 0, none⟩) n1p0 n1p0, circuitV a0p1 (some ⟨g1p1, 0, none⟩) n1p1 n1p1] w fun ee w' => ee = .returned (.tuple #[.bool r0, .bool r1]) ∧ Below w.heap.size w w') (hI : ∀ (g1p0 g1p1 : Nat) (w : World), Rd gateE w (some ⟨g1p0, 0, none⟩) xs1p0 → Rd gateE w (some ⟨g1p1, 0, none⟩) xs1p1 → Calls Try.prog 43 #[circuitV a0p0 (some ⟨g1p0, 0, none⟩) n1p0 n1p0, circuitV a0p1 (some ⟨g1p1, 0, none⟩) n1p1 n1p1] w fun ee w' => ee = .returned (.tuple #[.bool r0, .bool r1]) ∧ Below w.heap.size w w') (hA1p0 : Rd gateE w A1p0 xs1p0) (hn1p0 : xs1p0.length = n1p0) (hb1p0 : (n1p0 : Int) ≤ 1048576) (hA1p1 : Rd gateE w A1p1 xs1p1) (hn1p1 : xs1p1.length = n1p1) (hb1p1 : (n1p1 : Int) ≤ 1048576 - (n1p0 : Int)) :
    Calls Try.prog 7 #[(circuitV a0p0 A1p0 n1p0 c1p0), (circuitV a0p1 A1p1 n1p1 c1p1)] w fun ee w' => ee = .returned (.bool true) ∧ Below w.heap.size w w' := by
  have HAA1p0 := lay hA1p0
  have HN1p0 := lay hn1p0
  have HAA1p1 := lay hA1p1
  have HN1p1 := lay hn1p1
  have HS := lay hS
  have HI := lay hI
  have u0 : ¬ (1048576 - (n1p0 : Int) < 0) := by omega
  have v0 : 0 ≤ 1048576 - (n1p0 : Int) := by omega
  have s0 : (n1p0 : Int) ≤ 1048576 := by omega
  have t0 : 1048576 ≤ (1048576 : Int) := by omega
  have bn1p0 : n1p0 ≤ 1048576 := by omega
  have u1 : ¬ (1048576 - (n1p0 : Int) - (n1p1 : Int) < 0) := by omega
  have v1 : 0 ≤ 1048576 - (n1p0 : Int) - (n1p1 : Int) := by omega
  have s1 : (n1p1 : Int) ≤ 1048576 - (n1p0 : Int) := by omega
  have t1 : 1048576 - (n1p0 : Int) ≤ (1048576 : Int) := by omega
  have bn1p1 : n1p1 ≤ 1048576 := by omega
  have um0 : ¬ (1 + 3 * (n1p0 : Int) < 0) := by omega
  have vm0 : 0 ≤ 1 + 3 * (n1p0 : Int) := by omega
  have wm0 : 1 + 3 * (n1p0 : Int) ≤ 100000000 := by omega
  have um1 : ¬ (1 + 3 * (n1p0 : Int) + 3 * (n1p1 : Int) < 0) := by omega
  have vm1 : 0 ≤ 1 + 3 * (n1p0 : Int) + 3 * (n1p1 : Int) := by omega
  have wm1 : 1 + 3 * (n1p0 : Int) + 3 * (n1p1 : Int) ≤ 100000000 := by omega
  clear hS hI hA1p0 hn1p0 hA1p1 hn1p1
  go_enter Try.func7, Try.ntmps7
  go_wp2_with (fail)
  refine (szCircuit_t s0 t0).mono ?_
  rintro ee w1 ⟨rfl, hb1⟩
  have hL1 : Below w.heap.size w w1 := by (repeat' (first | (with_reducible exact Below.refl _ _) | (with_reducible assumption) | (with_reducible refine Below.alloc ?_ ?_ _) | (with_reducible refine Below.drew ?_) | (with_reducible refine bdN ?_ _) | (with_reducible refine Below.setCell ?_ ?_ _) | (with_reducible refine chn ?_ (by assumption) ?_) | omega | (simp; done) | (simp; omega)))
  have hz1 := hb1.size
  (try simp only [World.size_alloc] at hz1)
  have hB1 : Below w.heap.size w w1 := hL1
  have k1_0_0 : w1.cell? ⟨w.heap.size, 0, none⟩ = some (.int .i64 a0p0) := (hb1.cell (p := ⟨w.heap.size, 0, none⟩) (by show w.heap.size < _; (try simp only [World.size_alloc]); omega)).trans (by first | rfl | (simp; done) | (simp [*]; done))
  have k1_0_1 : w1.cell? ⟨w.heap.size, 1, none⟩ = some (.slice (A1p0) n1p0 c1p0) := (hb1.cell (p := ⟨w.heap.size, 1, none⟩) (by show w.heap.size < _; (try simp only [World.size_alloc]); omega)).trans (by first | rfl | (simp; done) | (simp [*]; done))
  have k1_1_0 : w1.cell? ⟨w.heap.size + 1, 0, none⟩ = some (.int .i64 a0p1) := (hb1.cell (p := ⟨w.heap.size + 1, 0, none⟩) (by show w.heap.size + 1 < _; (try simp only [World.size_alloc]); omega)).trans (by first | rfl | (simp; done) | (simp [*]; done))
  have k1_1_1 : w1.cell? ⟨w.heap.size + 1, 1, none⟩ = some (.slice (A1p1) n1p1 c1p1) := (hb1.cell (p := ⟨w.heap.size + 1, 1, none⟩) (by show w.heap.size + 1 < _; (try simp only [World.size_alloc]); omega)).trans (by first | rfl | (simp; done) | (simp [*]; done))
  have bl1_0 : w.heap.size < w1.heap.size := World.block_lt_of_cell? _ _ k1_0_0
  have bl1_1 : w.heap.size + 1 < w1.heap.size := World.block_lt_of_cell? _ _ k1_1_0
  clear hb1 hL1
  go_wp2_with (fail)
  refine (szCircuit_t s1 t1).mono ?_
  rintro ee w2 ⟨rfl, hb2⟩
  have hL2 : Below w1.heap.size w1 w2 := by (repeat' (first | (with_reducible exact Below.refl _ _) | (with_reducible assumption) | (with_reducible refine Below.alloc ?_ ?_ _) | (with_reducible refine Below.drew ?_) | (with_reducible refine bdN ?_ _) | (with_reducible refine Below.setCell ?_ ?_ _) | (with_reducible refine chn ?_ (by assumption) ?_) | omega | (simp; done) | (simp; omega)))
  have hz2 := hb2.size
  (try simp only [World.size_alloc] at hz2)
  have hB2 : Below w.heap.size w w2 := chn hB1 hL2 hB1.size
  have k2_0_0 : w2.cell? ⟨w.heap.size, 0, none⟩ = some (.int .i64 a0p0) := (hL2.cell (p := ⟨w.heap.size, 0, none⟩) (by show w.heap.size < w1.heap.size; omega)).trans k1_0_0
  have k2_0_1 : w2.cell? ⟨w.heap.size, 1, none⟩ = some (.slice (A1p0) n1p0 c1p0) := (hL2.cell (p := ⟨w.heap.size, 1, none⟩) (by show w.heap.size < w1.heap.size; omega)).trans k1_0_1
  have k2_1_0 : w2.cell? ⟨w.heap.size + 1, 0, none⟩ = some (.int .i64 a0p1) := (hL2.cell (p := ⟨w.heap.size + 1, 0, none⟩) (by show w.heap.size + 1 < w1.heap.size; omega)).trans k1_1_0
  have k2_1_1 : w2.cell? ⟨w.heap.size + 1, 1, none⟩ = some (.slice (A1p1) n1p1 c1p1) := (hL2.cell (p := ⟨w.heap.size + 1, 1, none⟩) (by show w.heap.size + 1 < w1.heap.size; omega)).trans k1_1_1
  have bl2_0 : w.heap.size < w2.heap.size := World.block_lt_of_cell? _ _ k2_0_0
  have bl2_1 : w.heap.size + 1 < w2.heap.size := World.block_lt_of_cell? _ _ k2_1_0
  clear hb2 hL2
  clear k1_0_0 k1_0_1 k1_1_0 k1_1_1
  go_wp2_with (fail)
  go_cut [6, 7] (fun s6 s7 wx => (s6 = .bool r0 ∧ s7 = .bool r1) ∧ (wx.cell? ⟨w.heap.size, 0, none⟩ = some (.int .i64 a0p0) ∧ wx.cell? ⟨w.heap.size, 1, none⟩ = some (.slice (A1p0) n1p0 c1p0) ∧ wx.cell? ⟨w.heap.size + 1, 0, none⟩ = some (.int .i64 a0p1) ∧ wx.cell? ⟨w.heap.size + 1, 1, none⟩ = some (.slice (A1p1) n1p1 c1p1) ∧ w2.heap.size ≤ wx.heap.size ∧ Below w.heap.size w wx))
  case first =>
    have yk2_0_0 : w2.drew.cell? ⟨w.heap.size, 0, none⟩ = some (.int .i64 a0p0) := k2_0_0
    have yk2_0_1 : w2.drew.cell? ⟨w.heap.size, 1, none⟩ = some (.slice (A1p0) n1p0 c1p0) := k2_0_1
    have yk2_1_0 : w2.drew.cell? ⟨w.heap.size + 1, 0, none⟩ = some (.int .i64 a0p1) := k2_1_0
    have yk2_1_1 : w2.drew.cell? ⟨w.heap.size + 1, 1, none⟩ = some (.slice (A1p1) n1p1 c1p1) := k2_1_1
    have hBz := hB2.size
    go_region_held3 (fun w' => w'.cell? ⟨w.heap.size, 0, none⟩ = some (.int .i64 a0p0) ∧ w'.cell? ⟨w.heap.size, 1, none⟩ = some (.slice (A1p0) n1p0 c1p0) ∧ w'.cell? ⟨w.heap.size + 1, 0, none⟩ = some (.int .i64 a0p1) ∧ w'.cell? ⟨w.heap.size + 1, 1, none⟩ = some (.slice (A1p1) n1p1 c1p1)) (first | (with_reducible exact ⟨yk2_0_0, yk2_0_1, yk2_1_0, yk2_1_1⟩) | (with_reducible exact ⟨k2_0_0, k2_0_1, k2_1_0, k2_1_1⟩) | (go_split_ands; with_reducible exact ⟨kcl hv0 (by with_reducible assumption), kcl hv0 (by with_reducible assumption), kcl hv0 (by with_reducible assumption), kcl hv0 (by with_reducible assumption)⟩) | (go_split_ands; with_reducible exact ⟨kcl hv1 (by with_reducible assumption), kcl hv1 (by with_reducible assumption), kcl hv1 (by with_reducible assumption), kcl hv1 (by with_reducible assumption)⟩) | (go_split_ands; with_reducible exact ⟨kcl hv2 (by with_reducible assumption), kcl hv2 (by with_reducible assumption), kcl hv2 (by with_reducible assumption), kcl hv2 (by with_reducible assumption)⟩)) (first | (go_at_call 31; ((with_reducible refine (toCircuit (xs1 := xs1p0) ?_ HN1p0.out bn1p0).mono ?_); (exact HAA1p0.out.mono (by (repeat' (first | (with_reducible exact Below.refl _ _) | (with_reducible assumption) | (with_reducible refine Below.alloc ?_ ?_ _) | (with_reducible refine Below.drew ?_) | (with_reducible refine bdN ?_ _) | (with_reducible refine Below.setCell ?_ ?_ _) | (with_reducible refine chn ?_ (by assumption) ?_) | omega | (simp; done) | (simp; omega))))); rintro ee v0 ⟨g0, rfl, hK0, hg0, hv0⟩; have hq0 := hv0.size; (try simp only [World.size_drew, World.size_alloc] at hq0))) | (go_at_call 31; ((with_reducible refine (toCircuit (xs1 := xs1p1) ?_ HN1p1.out bn1p1).mono ?_); (exact HAA1p1.out.mono (by (repeat' (first | (with_reducible exact Below.refl _ _) | (with_reducible assumption) | (with_reducible refine Below.alloc ?_ ?_ _) | (with_reducible refine Below.drew ?_) | (with_reducible refine bdN ?_ _) | (with_reducible refine Below.setCell ?_ ?_ _) | (with_reducible refine chn ?_ (by assumption) ?_) | omega | (simp; done) | (simp; omega))))); rintro ee v1 ⟨g1, rfl, hK1, hg1, hv1⟩; have hq1 := hv1.size; (try simp only [World.size_drew, World.size_alloc] at hq1))) | (go_at_call 42; ((with_reducible refine (HS.out _ _ _ ?_ ?_).mono ?_); (exact (by exact hK0.rd.mono (by (repeat' (first | (with_reducible exact Below.refl _ _) | (with_reducible assumption) | (with_reducible refine Below.alloc ?_ ?_ _) | (with_reducible refine Below.drew ?_) | (with_reducible refine bdN ?_ _) | (with_reducible refine Below.setCell ?_ ?_ _) | (with_reducible refine chn ?_ (by assumption) ?_) | omega | (simp; done) | (simp; omega)))))); (exact (by exact hK1.rd.mono (by (repeat' (first | (with_reducible exact Below.refl _ _) | (with_reducible assumption) | (with_reducible refine Below.alloc ?_ ?_ _) | (with_reducible refine Below.drew ?_) | (with_reducible refine bdN ?_ _) | (with_reducible refine Below.setCell ?_ ?_ _) | (with_reducible refine chn ?_ (by assumption) ?_) | omega | (simp; done) | (simp; omega)))))); rintro ee v2 ⟨rfl, hv2⟩; have hq2 := hv2.size; (try simp only [World.size_drew, World.size_alloc] at hq2))))
    all_goals (go_wp2_with fail; go_meet)
    all_goals go_split_ands
    all_goals (refine ⟨⟨rfl, rfl⟩, (by with_reducible assumption), (by with_reducible assumption), (by with_reducible assumption), (by with_reducible assumption), (by (try simp only [World.size_alloc, World.size_drew, World.size_setCell]); omega), (by (repeat' (first | (with_reducible exact Below.refl _ _) | (with_reducible assumption) | (with_reducible refine Below.alloc ?_ ?_ _) | (with_reducible refine Below.drew ?_) | (with_reducible refine bdN ?_ _) | (with_reducible refine Below.setCell ?_ ?_ _) | (with_reducible refine chn ?_ (by assumption) ?_) | omega | (simp; done) | (simp; omega))))⟩)
  case rest =>
    obtain ⟨w3, rfl⟩ : ∃ w3, w3 = wc := ⟨_, rfl⟩
    clear k2_0_0 k2_0_1 k2_1_0 k2_1_1
    obtain ⟨⟨rfl, rfl⟩, k3_0_0, k3_0_1, k3_1_0, k3_1_1, hz3, hB3⟩ := hcut
    have bl3_0 : w.heap.size < w3.heap.size := World.block_lt_of_cell? _ _ k3_0_0
    have bl3_1 : w.heap.size + 1 < w3.heap.size := World.block_lt_of_cell? _ _ k3_1_0
    go_wp2_with (fail)
    refine (toCircuit ?_ HN1p0.out bn1p0 ).mono ?_
    · exact HAA1p0.out.mono (by (repeat' (first | (with_reducible exact Below.refl _ _) | (with_reducible assumption) | (with_reducible refine Below.alloc ?_ ?_ _) | (with_reducible refine Below.drew ?_) | (with_reducible refine bdN ?_ _) | (with_reducible refine Below.setCell ?_ ?_ _) | (with_reducible refine chn ?_ (by assumption) ?_) | omega | (simp; done) | (simp; omega))))
    rintro ee w4 ⟨g4_1, rfl, hK4_1, hg4_1, hb4⟩
    have hL4 : Below w3.heap.size w3 w4 := by (repeat' (first | (with_reducible exact Below.refl _ _) | (with_reducible assumption) | (with_reducible refine Below.alloc ?_ ?_ _) | (with_reducible refine Below.drew ?_) | (with_reducible refine bdN ?_ _) | (with_reducible refine Below.setCell ?_ ?_ _) | (with_reducible refine chn ?_ (by assumption) ?_) | omega | (simp; done) | (simp; omega)))
    have hz4 := hb4.size
    (try simp only [World.size_alloc] at hz4)
    have hB4 : Below w.heap.size w w4 := chn hB3 hL4 hB3.size
    have k4_0_0 : w4.cell? ⟨w.heap.size, 0, none⟩ = some (.int .i64 a0p0) := (hL4.cell (p := ⟨w.heap.size, 0, none⟩) (by show w.heap.size < w3.heap.size; omega)).trans k3_0_0
    have k4_0_1 : w4.cell? ⟨w.heap.size, 1, none⟩ = some (.slice (A1p0) n1p0 c1p0) := (hL4.cell (p := ⟨w.heap.size, 1, none⟩) (by show w.heap.size < w3.heap.size; omega)).trans k3_0_1
    have k4_1_0 : w4.cell? ⟨w.heap.size + 1, 0, none⟩ = some (.int .i64 a0p1) := (hL4.cell (p := ⟨w.heap.size + 1, 0, none⟩) (by show w.heap.size + 1 < w3.heap.size; omega)).trans k3_1_0
    have k4_1_1 : w4.cell? ⟨w.heap.size + 1, 1, none⟩ = some (.slice (A1p1) n1p1 c1p1) := (hL4.cell (p := ⟨w.heap.size + 1, 1, none⟩) (by show w.heap.size + 1 < w3.heap.size; omega)).trans k3_1_1
    have bl4_0 : w.heap.size < w4.heap.size := World.block_lt_of_cell? _ _ k4_0_0
    have bl4_1 : w.heap.size + 1 < w4.heap.size := World.block_lt_of_cell? _ _ k4_1_0
    clear hb4 hL4
    clear k3_0_0 k3_0_1 k3_1_0 k3_1_1
    (try simp only [World.size_alloc] at hg4_1)
    have HX04 : Hid (Ow gateE w4 (w3.heap.size) 116 (some ⟨g4_1, 0, none⟩) xs1p0) := hK4_1.ow (by omega)
    clear hK4_1
    have hr_X0 := HX04.out.row
    go_wp2_with (fail)
    refine (toCircuit ?_ HN1p1.out bn1p1 ).mono ?_
    · exact HAA1p1.out.mono (by (repeat' (first | (with_reducible exact Below.refl _ _) | (with_reducible assumption) | (with_reducible refine Below.alloc ?_ ?_ _) | (with_reducible refine Below.drew ?_) | (with_reducible refine bdN ?_ _) | (with_reducible refine Below.setCell ?_ ?_ _) | (with_reducible refine chn ?_ (by assumption) ?_) | omega | (simp; done) | (simp; omega))))
    rintro ee w5 ⟨g5_1, rfl, hK5_1, hg5_1, hb5⟩
    have hL5 : Below w4.heap.size w4 w5 := by (repeat' (first | (with_reducible exact Below.refl _ _) | (with_reducible assumption) | (with_reducible refine Below.alloc ?_ ?_ _) | (with_reducible refine Below.drew ?_) | (with_reducible refine bdN ?_ _) | (with_reducible refine Below.setCell ?_ ?_ _) | (with_reducible refine chn ?_ (by assumption) ?_) | omega | (simp; done) | (simp; omega)))
    have hz5 := hb5.size
    (try simp only [World.size_alloc] at hz5)
    have hB5 : Below w.heap.size w w5 := chn hB4 hL5 hB4.size
    have k5_0_0 : w5.cell? ⟨w.heap.size, 0, none⟩ = some (.int .i64 a0p0) := (hL5.cell (p := ⟨w.heap.size, 0, none⟩) (by show w.heap.size < w4.heap.size; omega)).trans k4_0_0
    have k5_0_1 : w5.cell? ⟨w.heap.size, 1, none⟩ = some (.slice (A1p0) n1p0 c1p0) := (hL5.cell (p := ⟨w.heap.size, 1, none⟩) (by show w.heap.size < w4.heap.size; omega)).trans k4_0_1
    have k5_1_0 : w5.cell? ⟨w.heap.size + 1, 0, none⟩ = some (.int .i64 a0p1) := (hL5.cell (p := ⟨w.heap.size + 1, 0, none⟩) (by show w.heap.size + 1 < w4.heap.size; omega)).trans k4_1_0
    have k5_1_1 : w5.cell? ⟨w.heap.size + 1, 1, none⟩ = some (.slice (A1p1) n1p1 c1p1) := (hL5.cell (p := ⟨w.heap.size + 1, 1, none⟩) (by show w.heap.size + 1 < w4.heap.size; omega)).trans k4_1_1
    have k5_2_0 : w5.cell? ⟨w4.heap.size, 0, none⟩ = some (.int .i64 a0p0) := (hb5.cell (p := ⟨w4.heap.size, 0, none⟩) (by show w4.heap.size < _; (try simp only [World.size_alloc]); omega)).trans (by first | rfl | (simp; done) | (simp [*]; done))
    have k5_2_1 : w5.cell? ⟨w4.heap.size, 1, none⟩ = some (.slice (some ⟨g4_1, 0, none⟩) n1p0 n1p0) := (hb5.cell (p := ⟨w4.heap.size, 1, none⟩) (by show w4.heap.size < _; (try simp only [World.size_alloc]); omega)).trans (by first | rfl | (simp; done) | (simp [*]; done))
    have bl5_0 : w.heap.size < w5.heap.size := World.block_lt_of_cell? _ _ k5_0_0
    have bl5_1 : w.heap.size + 1 < w5.heap.size := World.block_lt_of_cell? _ _ k5_1_0
    have bl5_2 : w4.heap.size < w5.heap.size := World.block_lt_of_cell? _ _ k5_2_0
    have HX05 := lay (HX04.out.mono hL5)
    clear hb5 hL5
    clear k4_0_0 k4_0_1 k4_1_0 k4_1_1 HX04
    (try simp only [World.size_alloc] at hg5_1)
    have HX15 : Hid (Ow gateE w5 (w4.heap.size + 1) 116 (some ⟨g5_1, 0, none⟩) xs1p1) := hK5_1.ow (by omega)
    clear hK5_1
    have hr_X1 := HX15.out.row
    go_wp2_with (fail)
    refine (HI.out _ _ _ ?_ ?_).mono ?_
    · exact HX05.out.rd.mono (by (repeat' (first | (with_reducible exact Below.refl _ _) | (with_reducible assumption) | (with_reducible refine Below.alloc ?_ ?_ _) | (with_reducible refine Below.drew ?_) | (with_reducible refine bdN ?_ _) | (with_reducible refine Below.setCell ?_ ?_ _) | (with_reducible refine chn ?_ (by assumption) ?_) | omega | (simp; done) | (simp; omega))))
    · exact HX15.out.rd.mono (by (repeat' (first | (with_reducible exact Below.refl _ _) | (with_reducible assumption) | (with_reducible refine Below.alloc ?_ ?_ _) | (with_reducible refine Below.drew ?_) | (with_reducible refine bdN ?_ _) | (with_reducible refine Below.setCell ?_ ?_ _) | (with_reducible refine chn ?_ (by assumption) ?_) | omega | (simp; done) | (simp; omega))))
    rintro ee w6 ⟨rfl, hb6⟩
    have hL6 : Below w5.heap.size w5 w6 := by (repeat' (first | (with_reducible exact Below.refl _ _) | (with_reducible assumption) | (with_reducible refine Below.alloc ?_ ?_ _) | (with_reducible refine Below.drew ?_) | (with_reducible refine bdN ?_ _) | (with_reducible refine Below.setCell ?_ ?_ _) | (with_reducible refine chn ?_ (by assumption) ?_) | omega | (simp; done) | (simp; omega)))
    have hz6 := hb6.size
    (try simp only [World.size_alloc] at hz6)
    have hB6 : Below w.heap.size w w6 := chn hB5 hL6 hB5.size
    have k6_0_0 : w6.cell? ⟨w.heap.size, 0, none⟩ = some (.int .i64 a0p0) := (hL6.cell (p := ⟨w.heap.size, 0, none⟩) (by show w.heap.size < w5.heap.size; omega)).trans k5_0_0
    have k6_0_1 : w6.cell? ⟨w.heap.size, 1, none⟩ = some (.slice (A1p0) n1p0 c1p0) := (hL6.cell (p := ⟨w.heap.size, 1, none⟩) (by show w.heap.size < w5.heap.size; omega)).trans k5_0_1
    have k6_1_0 : w6.cell? ⟨w.heap.size + 1, 0, none⟩ = some (.int .i64 a0p1) := (hL6.cell (p := ⟨w.heap.size + 1, 0, none⟩) (by show w.heap.size + 1 < w5.heap.size; omega)).trans k5_1_0
    have k6_1_1 : w6.cell? ⟨w.heap.size + 1, 1, none⟩ = some (.slice (A1p1) n1p1 c1p1) := (hL6.cell (p := ⟨w.heap.size + 1, 1, none⟩) (by show w.heap.size + 1 < w5.heap.size; omega)).trans k5_1_1
    have k6_2_0 : w6.cell? ⟨w4.heap.size, 0, none⟩ = some (.int .i64 a0p0) := (hL6.cell (p := ⟨w4.heap.size, 0, none⟩) (by show w4.heap.size < w5.heap.size; omega)).trans k5_2_0
    have k6_2_1 : w6.cell? ⟨w4.heap.size, 1, none⟩ = some (.slice (some ⟨g4_1, 0, none⟩) n1p0 n1p0) := (hL6.cell (p := ⟨w4.heap.size, 1, none⟩) (by show w4.heap.size < w5.heap.size; omega)).trans k5_2_1
    have k6_3_0 : w6.cell? ⟨w5.heap.size, 0, none⟩ = some (.int .i64 a0p1) := (hb6.cell (p := ⟨w5.heap.size, 0, none⟩) (by show w5.heap.size < _; (try simp only [World.size_alloc]); omega)).trans (by first | rfl | (simp; done) | (simp [*]; done))
    have k6_3_1 : w6.cell? ⟨w5.heap.size, 1, none⟩ = some (.slice (some ⟨g5_1, 0, none⟩) n1p1 n1p1) := (hb6.cell (p := ⟨w5.heap.size, 1, none⟩) (by show w5.heap.size < _; (try simp only [World.size_alloc]); omega)).trans (by first | rfl | (simp; done) | (simp [*]; done))
    have bl6_0 : w.heap.size < w6.heap.size := World.block_lt_of_cell? _ _ k6_0_0
    have bl6_1 : w.heap.size + 1 < w6.heap.size := World.block_lt_of_cell? _ _ k6_1_0
    have bl6_2 : w4.heap.size < w6.heap.size := World.block_lt_of_cell? _ _ k6_2_0
    have bl6_3 : w5.heap.size < w6.heap.size := World.block_lt_of_cell? _ _ k6_3_0
    have HX06 := lay (HX05.out.mono hL6)
    have HX16 := lay (HX15.out.mono hL6)
    clear hb6 hL6
    clear k5_0_0 k5_0_1 k5_1_0 k5_1_1 k5_2_0 k5_2_1 HX05 HX15
    go_wp2_with (fail)
    go_cut [52] (fun s52 wx => (s52 = .bool false) ∧ (wx.cell? ⟨w.heap.size, 0, none⟩ = some (.int .i64 a0p0) ∧ wx.cell? ⟨w.heap.size, 1, none⟩ = some (.slice (A1p0) n1p0 c1p0) ∧ wx.cell? ⟨w.heap.size + 1, 0, none⟩ = some (.int .i64 a0p1) ∧ wx.cell? ⟨w.heap.size + 1, 1, none⟩ = some (.slice (A1p1) n1p1 c1p1) ∧ wx.cell? ⟨w4.heap.size, 0, none⟩ = some (.int .i64 a0p0) ∧ wx.cell? ⟨w4.heap.size, 1, none⟩ = some (.slice (some ⟨g4_1, 0, none⟩) n1p0 n1p0) ∧ wx.cell? ⟨w5.heap.size, 0, none⟩ = some (.int .i64 a0p1) ∧ wx.cell? ⟨w5.heap.size, 1, none⟩ = some (.slice (some ⟨g5_1, 0, none⟩) n1p1 n1p1) ∧ Hid (Ow gateE wx (w3.heap.size) 116 (some ⟨g4_1, 0, none⟩) xs1p0) ∧ Hid (Ow gateE wx (w4.heap.size + 1) 116 (some ⟨g5_1, 0, none⟩) xs1p1) ∧ w6.heap.size ≤ wx.heap.size ∧ Below w.heap.size w wx))
    case first =>
      have yk6_0_0 : w6.drew.cell? ⟨w.heap.size, 0, none⟩ = some (.int .i64 a0p0) := k6_0_0
      have yk6_0_1 : w6.drew.cell? ⟨w.heap.size, 1, none⟩ = some (.slice (A1p0) n1p0 c1p0) := k6_0_1
      have yk6_1_0 : w6.drew.cell? ⟨w.heap.size + 1, 0, none⟩ = some (.int .i64 a0p1) := k6_1_0
      have yk6_1_1 : w6.drew.cell? ⟨w.heap.size + 1, 1, none⟩ = some (.slice (A1p1) n1p1 c1p1) := k6_1_1
      have yk6_2_0 : w6.drew.cell? ⟨w4.heap.size, 0, none⟩ = some (.int .i64 a0p0) := k6_2_0
      have yk6_2_1 : w6.drew.cell? ⟨w4.heap.size, 1, none⟩ = some (.slice (some ⟨g4_1, 0, none⟩) n1p0 n1p0) := k6_2_1
      have yk6_3_0 : w6.drew.cell? ⟨w5.heap.size, 0, none⟩ = some (.int .i64 a0p1) := k6_3_0
      have yk6_3_1 : w6.drew.cell? ⟨w5.heap.size, 1, none⟩ = some (.slice (some ⟨g5_1, 0, none⟩) n1p1 n1p1) := k6_3_1
      have hBz := hB6.size
      go_region_held3 (fun w' => w'.cell? ⟨w.heap.size, 0, none⟩ = some (.int .i64 a0p0) ∧ w'.cell? ⟨w.heap.size, 1, none⟩ = some (.slice (A1p0) n1p0 c1p0) ∧ w'.cell? ⟨w.heap.size + 1, 0, none⟩ = some (.int .i64 a0p1) ∧ w'.cell? ⟨w.heap.size + 1, 1, none⟩ = some (.slice (A1p1) n1p1 c1p1) ∧ w'.cell? ⟨w4.heap.size, 0, none⟩ = some (.int .i64 a0p0) ∧ w'.cell? ⟨w4.heap.size, 1, none⟩ = some (.slice (some ⟨g4_1, 0, none⟩) n1p0 n1p0) ∧ w'.cell? ⟨w5.heap.size, 0, none⟩ = some (.int .i64 a0p1) ∧ w'.cell? ⟨w5.heap.size, 1, none⟩ = some (.slice (some ⟨g5_1, 0, none⟩) n1p1 n1p1)) (first | (with_reducible exact ⟨yk6_0_0, yk6_0_1, yk6_1_0, yk6_1_1, yk6_2_0, yk6_2_1, yk6_3_0, yk6_3_1⟩) | (with_reducible exact ⟨k6_0_0, k6_0_1, k6_1_0, k6_1_1, k6_2_0, k6_2_1, k6_3_0, k6_3_1⟩) | (go_split_ands; with_reducible exact ⟨kcl hv0 (by with_reducible assumption), kcl hv0 (by with_reducible assumption), kcl hv0 (by with_reducible assumption), kcl hv0 (by with_reducible assumption), kcl hv0 (by with_reducible assumption), kcl hv0 (by with_reducible assumption), kcl hv0 (by with_reducible assumption), kcl hv0 (by with_reducible assumption)⟩) | (go_split_ands; with_reducible exact ⟨kcl hv1 (by with_reducible assumption), kcl hv1 (by with_reducible assumption), kcl hv1 (by with_reducible assumption), kcl hv1 (by with_reducible assumption), kcl hv1 (by with_reducible assumption), kcl hv1 (by with_reducible assumption), kcl hv1 (by with_reducible assumption), kcl hv1 (by with_reducible assumption)⟩)) (first | (go_at_call 31; ((with_reducible refine (toCircuit (xs1 := xs1p0) ?_ HN1p0.out bn1p0).mono ?_); (exact HAA1p0.out.mono (by (repeat' (first | (with_reducible exact Below.refl _ _) | (with_reducible assumption) | (with_reducible refine Below.alloc ?_ ?_ _) | (with_reducible refine Below.drew ?_) | (with_reducible refine bdN ?_ _) | (with_reducible refine Below.setCell ?_ ?_ _) | (with_reducible refine chn ?_ (by assumption) ?_) | omega | (simp; done) | (simp; omega))))); rintro ee v0 ⟨g9, rfl, hK9, hg9, hv0⟩; have hq0 := hv0.size; (try simp only [World.size_drew, World.size_alloc] at hq0))) | (go_at_call 34; ((with_reducible refine (eqCircuit (xs1 := xs1p0) ?_ ?_ HN1p0.out bn1p0).mono ?_); (exact HX06.out.rd.mono (by (repeat' (first | (with_reducible exact Below.refl _ _) | (with_reducible assumption) | (with_reducible refine Below.alloc ?_ ?_ _) | (with_reducible refine Below.drew ?_) | (with_reducible refine bdN ?_ _) | (with_reducible refine Below.setCell ?_ ?_ _) | (with_reducible refine chn ?_ (by assumption) ?_) | omega | (simp; done) | (simp; omega))))); (exact hK9.rd); rintro ee v1 ⟨rfl, hv1⟩; have hq1 := hv1.size; (try simp only [World.size_drew, World.size_alloc] at hq1))))
      all_goals (go_wp2_with fail; go_meet)
      all_goals go_split_ands
      all_goals (refine ⟨rfl, (by with_reducible assumption), (by with_reducible assumption), (by with_reducible assumption), (by with_reducible assumption), (by with_reducible assumption), (by with_reducible assumption), (by with_reducible assumption), (by with_reducible assumption), (by exact HX06.out.mono (by (repeat' (first | (with_reducible exact Below.refl _ _) | (with_reducible assumption) | (with_reducible refine Below.alloc ?_ ?_ _) | (with_reducible refine Below.drew ?_) | (with_reducible refine bdN ?_ _) | (with_reducible refine Below.setCell ?_ ?_ _) | (with_reducible refine chn ?_ (by assumption) ?_) | omega | (simp; done) | (simp; omega))))), (by exact HX16.out.mono (by (repeat' (first | (with_reducible exact Below.refl _ _) | (with_reducible assumption) | (with_reducible refine Below.alloc ?_ ?_ _) | (with_reducible refine Below.drew ?_) | (with_reducible refine bdN ?_ _) | (with_reducible refine Below.setCell ?_ ?_ _) | (with_reducible refine chn ?_ (by assumption) ?_) | omega | (simp; done) | (simp; omega))))), (by (try simp only [World.size_alloc, World.size_drew, World.size_setCell]); omega), (by (repeat' (first | (with_reducible exact Below.refl _ _) | (with_reducible assumption) | (with_reducible refine Below.alloc ?_ ?_ _) | (with_reducible refine Below.drew ?_) | (with_reducible refine bdN ?_ _) | (with_reducible refine Below.setCell ?_ ?_ _) | (with_reducible refine chn ?_ (by assumption) ?_) | omega | (simp; done) | (simp; omega))))⟩)
    case rest =>
      obtain ⟨w7, rfl⟩ : ∃ w7, w7 = wc := ⟨_, rfl⟩
      clear k6_0_0 k6_0_1 k6_1_0 k6_1_1 k6_2_0 k6_2_1 k6_3_0 k6_3_1 HX06 HX16
      obtain ⟨rfl, k7_0_0, k7_0_1, k7_1_0, k7_1_1, k7_2_0, k7_2_1, k7_3_0, k7_3_1, HX07, HX17, hz7, hB7⟩ := hcut
      have bl7_0 : w.heap.size < w7.heap.size := World.block_lt_of_cell? _ _ k7_0_0
      have bl7_1 : w.heap.size + 1 < w7.heap.size := World.block_lt_of_cell? _ _ k7_1_0
      have bl7_2 : w4.heap.size < w7.heap.size := World.block_lt_of_cell? _ _ k7_2_0
      have bl7_3 : w5.heap.size < w7.heap.size := World.block_lt_of_cell? _ _ k7_3_0
      go_wp2_with (fail)
      go_cut [57] (fun s57 wx => (s57 = .bool false) ∧ (wx.cell? ⟨w.heap.size, 0, none⟩ = some (.int .i64 a0p0) ∧ wx.cell? ⟨w.heap.size, 1, none⟩ = some (.slice (A1p0) n1p0 c1p0) ∧ wx.cell? ⟨w.heap.size + 1, 0, none⟩ = some (.int .i64 a0p1) ∧ wx.cell? ⟨w.heap.size + 1, 1, none⟩ = some (.slice (A1p1) n1p1 c1p1) ∧ wx.cell? ⟨w4.heap.size, 0, none⟩ = some (.int .i64 a0p0) ∧ wx.cell? ⟨w4.heap.size, 1, none⟩ = some (.slice (some ⟨g4_1, 0, none⟩) n1p0 n1p0) ∧ wx.cell? ⟨w5.heap.size, 0, none⟩ = some (.int .i64 a0p1) ∧ wx.cell? ⟨w5.heap.size, 1, none⟩ = some (.slice (some ⟨g5_1, 0, none⟩) n1p1 n1p1) ∧ Hid (Ow gateE wx (w3.heap.size) 116 (some ⟨g4_1, 0, none⟩) xs1p0) ∧ Hid (Ow gateE wx (w4.heap.size + 1) 116 (some ⟨g5_1, 0, none⟩) xs1p1) ∧ w7.heap.size ≤ wx.heap.size ∧ Below w.heap.size w wx))
      case first =>
        have yk7_0_0 : w7.drew.cell? ⟨w.heap.size, 0, none⟩ = some (.int .i64 a0p0) := k7_0_0
        have yk7_0_1 : w7.drew.cell? ⟨w.heap.size, 1, none⟩ = some (.slice (A1p0) n1p0 c1p0) := k7_0_1
        have yk7_1_0 : w7.drew.cell? ⟨w.heap.size + 1, 0, none⟩ = some (.int .i64 a0p1) := k7_1_0
        have yk7_1_1 : w7.drew.cell? ⟨w.heap.size + 1, 1, none⟩ = some (.slice (A1p1) n1p1 c1p1) := k7_1_1
        have yk7_2_0 : w7.drew.cell? ⟨w4.heap.size, 0, none⟩ = some (.int .i64 a0p0) := k7_2_0
        have yk7_2_1 : w7.drew.cell? ⟨w4.heap.size, 1, none⟩ = some (.slice (some ⟨g4_1, 0, none⟩) n1p0 n1p0) := k7_2_1
        have yk7_3_0 : w7.drew.cell? ⟨w5.heap.size, 0, none⟩ = some (.int .i64 a0p1) := k7_3_0
        have yk7_3_1 : w7.drew.cell? ⟨w5.heap.size, 1, none⟩ = some (.slice (some ⟨g5_1, 0, none⟩) n1p1 n1p1) := k7_3_1
        have hBz := hB7.size
        go_region_held3 (fun w' => w'.cell? ⟨w.heap.size, 0, none⟩ = some (.int .i64 a0p0) ∧ w'.cell? ⟨w.heap.size, 1, none⟩ = some (.slice (A1p0) n1p0 c1p0) ∧ w'.cell? ⟨w.heap.size + 1, 0, none⟩ = some (.int .i64 a0p1) ∧ w'.cell? ⟨w.heap.size + 1, 1, none⟩ = some (.slice (A1p1) n1p1 c1p1) ∧ w'.cell? ⟨w4.heap.size, 0, none⟩ = some (.int .i64 a0p0) ∧ w'.cell? ⟨w4.heap.size, 1, none⟩ = some (.slice (some ⟨g4_1, 0, none⟩) n1p0 n1p0) ∧ w'.cell? ⟨w5.heap.size, 0, none⟩ = some (.int .i64 a0p1) ∧ w'.cell? ⟨w5.heap.size, 1, none⟩ = some (.slice (some ⟨g5_1, 0, none⟩) n1p1 n1p1)) (first | (with_reducible exact ⟨yk7_0_0, yk7_0_1, yk7_1_0, yk7_1_1, yk7_2_0, yk7_2_1, yk7_3_0, yk7_3_1⟩) | (with_reducible exact ⟨k7_0_0, k7_0_1, k7_1_0, k7_1_1, k7_2_0, k7_2_1, k7_3_0, k7_3_1⟩) | (go_split_ands; with_reducible exact ⟨kcl hv0 (by with_reducible assumption), kcl hv0 (by with_reducible assumption), kcl hv0 (by with_reducible assumption), kcl hv0 (by with_reducible assumption), kcl hv0 (by with_reducible assumption), kcl hv0 (by with_reducible assumption), kcl hv0 (by with_reducible assumption), kcl hv0 (by with_reducible assumption)⟩) | (go_split_ands; with_reducible exact ⟨kcl hv1 (by with_reducible assumption), kcl hv1 (by with_reducible assumption), kcl hv1 (by with_reducible assumption), kcl hv1 (by with_reducible assumption), kcl hv1 (by with_reducible assumption), kcl hv1 (by with_reducible assumption), kcl hv1 (by with_reducible assumption), kcl hv1 (by with_reducible assumption)⟩)) (first | (go_at_call 31; ((with_reducible refine (toCircuit (xs1 := xs1p1) ?_ HN1p1.out bn1p1).mono ?_); (exact HAA1p1.out.mono (by (repeat' (first | (with_reducible exact Below.refl _ _) | (with_reducible assumption) | (with_reducible refine Below.alloc ?_ ?_ _) | (with_reducible refine Below.drew ?_) | (with_reducible refine bdN ?_ _) | (with_reducible refine Below.setCell ?_ ?_ _) | (with_reducible refine chn ?_ (by assumption) ?_) | omega | (simp; done) | (simp; omega))))); rintro ee v0 ⟨g9, rfl, hK9, hg9, hv0⟩; have hq0 := hv0.size; (try simp only [World.size_drew, World.size_alloc] at hq0))) | (go_at_call 34; ((with_reducible refine (eqCircuit (xs1 := xs1p1) ?_ ?_ HN1p1.out bn1p1).mono ?_); (exact HX17.out.rd.mono (by (repeat' (first | (with_reducible exact Below.refl _ _) | (with_reducible assumption) | (with_reducible refine Below.alloc ?_ ?_ _) | (with_reducible refine Below.drew ?_) | (with_reducible refine bdN ?_ _) | (with_reducible refine Below.setCell ?_ ?_ _) | (with_reducible refine chn ?_ (by assumption) ?_) | omega | (simp; done) | (simp; omega))))); (exact hK9.rd); rintro ee v1 ⟨rfl, hv1⟩; have hq1 := hv1.size; (try simp only [World.size_drew, World.size_alloc] at hq1))))
        all_goals (go_wp2_with fail; go_meet)
        all_goals go_split_ands
        all_goals (refine ⟨rfl, (by with_reducible assumption), (by with_reducible assumption), (by with_reducible assumption), (by with_reducible assumption), (by with_reducible assumption), (by with_reducible assumption), (by with_reducible assumption), (by with_reducible assumption), (by exact HX07.out.mono (by (repeat' (first | (with_reducible exact Below.refl _ _) | (with_reducible assumption) | (with_reducible refine Below.alloc ?_ ?_ _) | (with_reducible refine Below.drew ?_) | (with_reducible refine bdN ?_ _) | (with_reducible refine Below.setCell ?_ ?_ _) | (with_reducible refine chn ?_ (by assumption) ?_) | omega | (simp; done) | (simp; omega))))), (by exact HX17.out.mono (by (repeat' (first | (with_reducible exact Below.refl _ _) | (with_reducible assumption) | (with_reducible refine Below.alloc ?_ ?_ _) | (with_reducible refine Below.drew ?_) | (with_reducible refine bdN ?_ _) | (with_reducible refine Below.setCell ?_ ?_ _) | (with_reducible refine chn ?_ (by assumption) ?_) | omega | (simp; done) | (simp; omega))))), (by (try simp only [World.size_alloc, World.size_drew, World.size_setCell]); omega), (by (repeat' (first | (with_reducible exact Below.refl _ _) | (with_reducible assumption) | (with_reducible refine Below.alloc ?_ ?_ _) | (with_reducible refine Below.drew ?_) | (with_reducible refine bdN ?_ _) | (with_reducible refine Below.setCell ?_ ?_ _) | (with_reducible refine chn ?_ (by assumption) ?_) | omega | (simp; done) | (simp; omega))))⟩)
      case rest =>
        obtain ⟨w8, rfl⟩ : ∃ w8, w8 = wc := ⟨_, rfl⟩
        clear k7_0_0 k7_0_1 k7_1_0 k7_1_1 k7_2_0 k7_2_1 k7_3_0 k7_3_1 HX07 HX17
        obtain ⟨rfl, k8_0_0, k8_0_1, k8_1_0, k8_1_1, k8_2_0, k8_2_1, k8_3_0, k8_3_1, HX08, HX18, hz8, hB8⟩ := hcut
        have bl8_0 : w.heap.size < w8.heap.size := World.block_lt_of_cell? _ _ k8_0_0
        have bl8_1 : w.heap.size + 1 < w8.heap.size := World.block_lt_of_cell? _ _ k8_1_0
        have bl8_2 : w4.heap.size < w8.heap.size := World.block_lt_of_cell? _ _ k8_2_0
        have bl8_3 : w5.heap.size < w8.heap.size := World.block_lt_of_cell? _ _ k8_3_0
        go_wp2_with (fail)
        go_ret
        exact ⟨rfl, hB8⟩

theorem fnExactSameClifford_walk {a0p0 : Int} {A1p0 : Option Addr} {n1p0 c1p0 : Nat} {xs1p0 : List GateV} {a0p1 : Int} {A1p1 : Option Addr} {n1p1 c1p1 : Nat} {xs1p1 : List GateV} {w : World} (hA1p0 : Rd gateE w A1p0 xs1p0) (hn1p0 : xs1p0.length = n1p0) (hm1p0 : n1p0 ≤ maxLen) (hA1p1 : Rd gateE w A1p1 xs1p1) (hn1p1 : xs1p1.length = n1p1) (hm1p1 : n1p1 ≤ maxLen) :
    Calls Try.prog 7 #[(circuitV a0p0 A1p0 n1p0 c1p0), (circuitV a0p1 A1p1 n1p1 c1p1)] w fun ee w' => ee = .returned (.bool true) ∧ Below w.heap.size w w' := by
  by_cases hb0 : (n1p0 : Int) ≤ 1048576
  · skip
    by_cases hb1 : (n1p1 : Int) ≤ 1048576 - (n1p0 : Int)
    · skip
      obtain ⟨qa, ha⟩ := boolOf2 (P := okC a0p0 n1p0 xs1p0 = true ∧ noT xs1p0)
      obtain ⟨qb, hb⟩ := boolOf2 (P := okC a0p1 n1p1 xs1p1 = true ∧ noT xs1p1)
      by_cases hf : qa = true ∧ qb = true ∧ a0p0 = a0p1
      · obtain ⟨e1, e2, e3⟩ := hf
        obtain ⟨hok, hT⟩ := ha.1 e1
        obtain ⟨hok2, hT2⟩ := hb.1 e2
        obtain ⟨l1, l2, l3, l4⟩ := okC_iff.1 hok
        obtain ⟨n, hnn⟩ := Int.eq_ofNat_of_zero_le (show 0 ≤ a0p0 by omega)
        subst hnn
        subst e3
        obtain ⟨q1, q5, h4, hg⟩ := okC_G hok hT
        obtain ⟨-, -, h5, hg2⟩ := okC_G hok2 hT2
        obtain ⟨t, ht⟩ := boolOf2 (P := (tauT n xs1p0 n1p0).1 = (tauT n xs1p1 n1p1).1 ∧ (tauT n xs1p0 n1p0).2 = (tauT n xs1p1 n1p1).2)
        exact lwSameClifford (r0 := t) (r1 := true) (fun g h w hA hB => sc_s_t q1 q5 h4 h5 hok hT hg hok2 hT2 hg2 ht hA hB hn1p0 hn1p1) (fun g h w hA hB => sc_i_t q1 q5 h4 h5 hok hT hg hok2 hT2 hg2 ht hA hB hn1p0 hn1p1)  hA1p0 hn1p0 (by omega) hA1p1 hn1p1 (by omega)
      · have hf2 : qa = true → qb = true → a0p0 ≠ a0p1 := fun h1 h2 h3 => hf ⟨h1, h2, h3⟩
        exact lwSameClifford (r0 := false) (r1 := false) (fun g h w hA hB => sc_s_f ha hb hf2 hA hB hn1p0 hn1p1 hm1p0 hm1p1) (fun g h w hA hB => sc_i_f ha hb hf2 hA hB hn1p0 hn1p1 hm1p0 hm1p1)  hA1p0 hn1p0 (by omega) hA1p1 hn1p1 (by omega)
    · exact bigSameClifford1 hb0 (by omega) hm1p1
  · exact bigSameClifford0  (by omega) hm1p0

end Go.Proofs.Ytjedpeoafpljhaa.C4
