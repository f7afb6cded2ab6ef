/- ComposeTableaux: the walk of the law; the law at all arguments. -/
import Derived.Test.YtgcligmpdlffoaaPcz
import Derived.Deep.RegionHeld3
import Derived.Deep.DeepCutAuto
namespace Go.Proofs.Ytgcligmpdlffoaa.C4
open Go.RowKit
set_option linter.unusedVariables false
set_option linter.unusedSimpArgs false
attribute [local irreducible] World.setCell

set_option maxRecDepth 100000 in
set_option maxHeartbeats 4000000 in
theorem bigComposeTableaux0 {a0p0 : Int} {A1p0 : Option Addr} {n1p0 c1p0 : Nat} {A2p0 : Option Addr} {n2p0 c2p0 : Nat} {a0p1 : Int} {A1p1 : Option Addr} {n1p1 c1p1 : Nat} {A2p1 : Option Addr} {n2p1 c2p1 : Nat} {w : World} (hb : 1048576 < (n1p0 : Int) + (n2p0 : Int)) (hmn1p0 : n1p0 ≤ maxLen) (hmn2p0 : n2p0 ≤ maxLen) :
    Calls Try.prog 14 #[(tableauV a0p0 A1p0 n1p0 c1p0 A2p0 n2p0 c2p0), (tableauV a0p1 A1p1 n1p1 c1p1 A2p1 n2p1 c2p1)] w fun ee w' => ee = .returned (.bool true) ∧ Below w.heap.size w w' := by
  have hb0 : 1048576 < (n1p0 : Int) + (n2p0 : Int) := by omega
  have hb1 : 1048576 ≤ (1048576 : Int) := by omega
  have hb2 : (0 : Int) ≤ 1048576 := by omega
  go_enter Try.func14, Try.ntmps14
  go_wp2_with (fail)
  refine (szTableau_f hb0 hb1 hb2 hmn1p0 hmn2p0).mono ?_
  rintro ee v ⟨rfl, hv⟩
  go_wp2_with (fail)
  go_ret
  refine ⟨rfl, ?_⟩
  (repeat' (first | (with_reducible exact Below.refl _ _) | (with_reducible assumption) | (with_reducible refine Below.alloc ?_ ?_ _) | (with_reducible refine Below.drew ?_) | (with_reducible refine bdN ?_ _) | (with_reducible refine Below.setCell ?_ ?_ _) | (with_reducible refine chn ?_ (by assumption) ?_) | omega | (simp; done) | (simp; omega)))

set_option maxRecDepth 100000 in
set_option maxHeartbeats 4000000 in
theorem bigComposeTableaux1 {a0p0 : Int} {A1p0 : Option Addr} {n1p0 c1p0 : Nat} {A2p0 : Option Addr} {n2p0 c2p0 : Nat} {a0p1 : Int} {A1p1 : Option Addr} {n1p1 c1p1 : Nat} {A2p1 : Option Addr} {n2p1 c2p1 : Nat} {w : World} (h0 : (n1p0 : Int) + (n2p0 : Int) ≤ 1048576) (hb : 1048576 - (n1p0 : Int) - (n2p0 : Int) < (n1p1 : Int) + (n2p1 : Int)) (hmn1p1 : n1p1 ≤ maxLen) (hmn2p1 : n2p1 ≤ maxLen) :
    Calls Try.prog 14 #[(tableauV a0p0 A1p0 n1p0 c1p0 A2p0 n2p0 c2p0), (tableauV a0p1 A1p1 n1p1 c1p1 A2p1 n2p1 c2p1)] w fun ee w' => ee = .returned (.bool true) ∧ Below w.heap.size w w' := by
  have s0_0 : (n1p0 : Int) ≤ 1048576 := by omega
  have s0_1 : (n2p0 : Int) ≤ 1048576 - (n1p0 : Int) := by omega
  have t0 : 1048576 ≤ (1048576 : Int) := by omega
  have m0 : ¬ (1048576 - (n1p0 : Int) - (n2p0 : Int) < 0) := by omega
  have hb0 : 1048576 - (n1p0 : Int) - (n2p0 : Int) < (n1p1 : Int) + (n2p1 : Int) := by omega
  have hb1 : 1048576 - (n1p0 : Int) - (n2p0 : Int) ≤ (1048576 : Int) := by omega
  have hb2 : (0 : Int) ≤ 1048576 - (n1p0 : Int) - (n2p0 : Int) := by omega
  go_enter Try.func14, Try.ntmps14
  go_wp2_with (fail)
  refine (szTableau_t s0_0 s0_1 t0).mono ?_
  rintro ee w1 ⟨rfl, hb_1⟩
  obtain ⟨hc1, hf1, _⟩ := bcl hb_1
  have hz1 := hb_1.size
  (try simp at hz1)
  (try have hx10 : w.heap.size < w1.heap.size := (by omega))
  (try have hx11 : w.heap.size + 1 < w1.heap.size := (by omega))
  (try have hx12 : w.heap.size + 1 + 1 < w1.heap.size := (by omega))
  (try have hx13 : w.heap.size + 1 + 1 + 1 < w1.heap.size := (by omega))
  (try have hx14 : w.heap.size + 1 + 1 + 1 + 1 < w1.heap.size := (by omega))
  go_wp2_with (fail)
  refine (szTableau_f hb0 hb1 hb2 hmn1p1 hmn2p1).mono ?_
  rintro ee v ⟨rfl, hv⟩
  go_wp2_with (fail)
  go_ret
  refine ⟨rfl, ?_⟩
  (repeat' (first | (with_reducible exact Below.refl _ _) | (with_reducible assumption) | (with_reducible refine Below.alloc ?_ ?_ _) | (with_reducible refine Below.drew ?_) | (with_reducible refine bdN ?_ _) | (with_reducible refine Below.setCell ?_ ?_ _) | (with_reducible refine chn ?_ (by assumption) ?_) | omega | (simp; done) | (simp; omega)))

set_option maxRecDepth 100000 in
set_option maxHeartbeats 16000000 in
theorem lwComposeTableaux {a0p0 : Int} {A1p0 : Option Addr} {n1p0 c1p0 : Nat} {A2p0 : Option Addr} {n2p0 c2p0 : Nat} {xs1p0 : List PauliV} {xs2p0 : List PauliV} {a0p1 : Int} {A1p1 : Option Addr} {n1p1 c1p1 : Nat} {A2p1 : Option Addr} {n2p1 c2p1 : Nat} {xs1p1 : List PauliV} {xs2p1 : List PauliV} {a0q0 : Int} {k1q0 : Nat} {zs1q0 : List PauliV} {k2q0 : Nat} {zs2q0 : List PauliV} {r1 : Bool} {w : World} (hS : ∀ (g1p0 g2p0 g1p1 g2p1 : Nat) (w : World), Rd pauliE w (some ⟨g1p0, 0, none⟩) xs1p0 → Rd pauliE w (some ⟨g2p0, 0, none⟩) xs2p0 → Rd pauliE w (some ⟨g1p1, 0, none⟩) xs1p1 → Rd pauliE w (some ⟨g2p1, 0, none⟩) xs2p1 → Calls Try.prog 53 #[tableauV a0p0 (some ⟨g1p0, 0, none⟩) n1p0 n1p0 (some ⟨g2p0, 0, none⟩) n2p0 n2p0, tableauV a0p1 (some ⟨g1p1, 0, none⟩) n1p1 n1p1 (some ⟨g2p1, 0, none⟩) n2p1 n2p1] w fun ee w' => ∃ A1q0 c1q0 A2q0 c2q0, ee = .returned (.tuple #[tableauV a0q0 A1q0 k1q0 c1q0 A2q0 k2q0 c2q0, .bool r1]) ∧ (Rd pauliE w' A1q0 zs1q0 ∧ (∀ a, A1q0 = some a → w.heap.size ≤ a.block)) ∧ (Rd pauliE w' A2q0 zs2q0 ∧ (∀ a, A2q0 = some a → w.heap.size ≤ a.block)) ∧ Below w.heap.size w w') (hI : ∀ (g1p0 g2p0 g1p1 g2p1 : Nat) (w : World), Rd pauliE w (some ⟨g1p0, 0, none⟩) xs1p0 → Rd pauliE w (some ⟨g2p0, 0, none⟩) xs2p0 → Rd pauliE w (some ⟨g1p1, 0, none⟩) xs1p1 → Rd pauliE w (some ⟨g2p1, 0, none⟩) xs2p1 → Calls Try.prog 54 #[tableauV a0p0 (some ⟨g1p0, 0, none⟩) n1p0 n1p0 (some ⟨g2p0, 0, none⟩) n2p0 n2p0, tableauV a0p1 (some ⟨g1p1, 0, none⟩) n1p1 n1p1 (some ⟨g2p1, 0, none⟩) n2p1 n2p1] w fun ee w' => ∃ A1q0 c1q0 A2q0 c2q0, ee = .returned (.tuple #[tableauV a0q0 A1q0 k1q0 c1q0 A2q0 k2q0 c2q0, .bool r1]) ∧ Ow pauliE w' w.heap.size 45 A1q0 zs1q0 ∧ Ow pauliE w' w.heap.size 45 A2q0 zs2q0 ∧ (∀ r, blk A1q0 = some r → blk A2q0 ≠ some r) ∧ Below w.heap.size w w') (hz1q0 : zs1q0.length = k1q0) (hk1q0 : k1q0 ≤ 1048576) (hz2q0 : zs2q0.length = k2q0) (hk2q0 : k2q0 ≤ 1048576) (hA1p0 : Rd pauliE w A1p0 xs1p0) (hn1p0 : xs1p0.length = n1p0) (hb1p0 : (n1p0 : Int) ≤ 1048576) (hA2p0 : Rd pauliE w A2p0 xs2p0) (hn2p0 : xs2p0.length = n2p0) (hb2p0 : (n2p0 : Int) ≤ 1048576 - (n1p0 : Int)) (hA1p1 : Rd pauliE w A1p1 xs1p1) (hn1p1 : xs1p1.length = n1p1) (hb1p1 : (n1p1 : Int) ≤ 1048576 - (n1p0 : Int) - (n2p0 : Int)) (hA2p1 : Rd pauliE w A2p1 xs2p1) (hn2p1 : xs2p1.length = n2p1) (hb2p1 : (n2p1 : Int) ≤ 1048576 - (n1p0 : Int) - (n2p0 : Int) - (n1p1 : Int)) :
    Calls Try.prog 14 #[(tableauV a0p0 A1p0 n1p0 c1p0 A2p0 n2p0 c2p0), (tableauV a0p1 A1p1 n1p1 c1p1 A2p1 n2p1 c2p1)] w fun ee w' => ee = .returned (.bool true) ∧ Below w.heap.size w w' := by
  have HZ1q0 := lay hz1q0
  have HZ2q0 := lay hz2q0
  have HAA1p0 := lay hA1p0
  have HN1p0 := lay hn1p0
  have HAA2p0 := lay hA2p0
  have HN2p0 := lay hn2p0
  have HAA1p1 := lay hA1p1
  have HN1p1 := lay hn1p1
  have HAA2p1 := lay hA2p1
  have HN2p1 := lay hn2p1
  have HS := lay hS
  have HI := lay hI
  have u0 : ¬ (1048576 - (n1p0 : Int) < 0) := by omega
  have v0 : 0 ≤ 1048576 - (n1p0 : Int) := by omega
  have s0 : (n1p0 : Int) ≤ 1048576 := by omega
  have t0 : 1048576 ≤ (1048576 : Int) := by omega
  have bn1p0 : n1p0 ≤ 1048576 := by omega
  have u1 : ¬ (1048576 - (n1p0 : Int) - (n2p0 : Int) < 0) := by omega
  have v1 : 0 ≤ 1048576 - (n1p0 : Int) - (n2p0 : Int) := by omega
  have s1 : (n2p0 : Int) ≤ 1048576 - (n1p0 : Int) := by omega
  have t1 : 1048576 - (n1p0 : Int) ≤ (1048576 : Int) := by omega
  have bn2p0 : n2p0 ≤ 1048576 := by omega
  have u2 : ¬ (1048576 - (n1p0 : Int) - (n2p0 : Int) - (n1p1 : Int) < 0) := by omega
  have v2 : 0 ≤ 1048576 - (n1p0 : Int) - (n2p0 : Int) - (n1p1 : Int) := by omega
  have s2 : (n1p1 : Int) ≤ 1048576 - (n1p0 : Int) - (n2p0 : Int) := by omega
  have t2 : 1048576 - (n1p0 : Int) - (n2p0 : Int) ≤ (1048576 : Int) := by omega
  have bn1p1 : n1p1 ≤ 1048576 := by omega
  have u3 : ¬ (1048576 - (n1p0 : Int) - (n2p0 : Int) - (n1p1 : Int) - (n2p1 : Int) < 0) := by omega
  have v3 : 0 ≤ 1048576 - (n1p0 : Int) - (n2p0 : Int) - (n1p1 : Int) - (n2p1 : Int) := by omega
  have s3 : (n2p1 : Int) ≤ 1048576 - (n1p0 : Int) - (n2p0 : Int) - (n1p1 : Int) := by omega
  have t3 : 1048576 - (n1p0 : Int) - (n2p0 : Int) - (n1p1 : Int) ≤ (1048576 : Int) := by omega
  have bn2p1 : n2p1 ≤ 1048576 := by omega
  have um0 : ¬ (1 + 3 * (n1p0 : Int) < 0) := by omega
  have vm0 : 0 ≤ 1 + 3 * (n1p0 : Int) := by omega
  have wm0 : 1 + 3 * (n1p0 : Int) ≤ 100000000 := by omega
  have um1 : ¬ (1 + 3 * (n1p0 : Int) + 3 * (n2p0 : Int) < 0) := by omega
  have vm1 : 0 ≤ 1 + 3 * (n1p0 : Int) + 3 * (n2p0 : Int) := by omega
  have wm1 : 1 + 3 * (n1p0 : Int) + 3 * (n2p0 : Int) ≤ 100000000 := by omega
  have um2 : ¬ (1 + 3 * (n1p0 : Int) + 3 * (n2p0 : Int) + 3 * (n1p1 : Int) < 0) := by omega
  have vm2 : 0 ≤ 1 + 3 * (n1p0 : Int) + 3 * (n2p0 : Int) + 3 * (n1p1 : Int) := by omega
  have wm2 : 1 + 3 * (n1p0 : Int) + 3 * (n2p0 : Int) + 3 * (n1p1 : Int) ≤ 100000000 := by omega
  have um3 : ¬ (1 + 3 * (n1p0 : Int) + 3 * (n2p0 : Int) + 3 * (n1p1 : Int) + 3 * (n2p1 : Int) < 0) := by omega
  have vm3 : 0 ≤ 1 + 3 * (n1p0 : Int) + 3 * (n2p0 : Int) + 3 * (n1p1 : Int) + 3 * (n2p1 : Int) := by omega
  have wm3 : 1 + 3 * (n1p0 : Int) + 3 * (n2p0 : Int) + 3 * (n1p1 : Int) + 3 * (n2p1 : Int) ≤ 100000000 := by omega
  have uk1q0 : ¬ (1 + 3 * (k1q0 : Int) < 0) := by omega
  have vk1q0 : 0 ≤ 1 + 3 * (k1q0 : Int) := by omega
  have wk1q0 : 1 + 3 * (k1q0 : Int) ≤ 100000000 := by omega
  have uk2q0 : ¬ (1 + 3 * (k1q0 : Int) + 3 * (k2q0 : Int) < 0) := by omega
  have vk2q0 : 0 ≤ 1 + 3 * (k1q0 : Int) + 3 * (k2q0 : Int) := by omega
  have wk2q0 : 1 + 3 * (k1q0 : Int) + 3 * (k2q0 : Int) ≤ 100000000 := by omega
  clear hS hI hz1q0 hz2q0 hA1p0 hn1p0 hA2p0 hn2p0 hA1p1 hn1p1 hA2p1 hn2p1
  go_enter Try.func14, Try.ntmps14
  go_wp2_with (fail)
  refine (szTableau_t s0 s1 t0).mono ?_
  rintro ee w1 ⟨rfl, hb1⟩
  have hL1 : Below w.heap.size w w1 := by (repeat' (first | (with_reducible exact Below.refl _ _) | (with_reducible assumption) | (with_reducible refine Below.alloc ?_ ?_ _) | (with_reducible refine Below.drew ?_) | (with_reducible refine bdN ?_ _) | (with_reducible refine Below.setCell ?_ ?_ _) | (with_reducible refine chn ?_ (by assumption) ?_) | omega | (simp; done) | (simp; omega)))
  have hz1 := hb1.size
  (try simp only [World.size_alloc] at hz1)
  have hB1 : Below w.heap.size w w1 := hL1
  have k1_0_0 : w1.cell? ⟨w.heap.size, 0, none⟩ = some (.int .i64 a0p0) := (hb1.cell (p := ⟨w.heap.size, 0, none⟩) (by show w.heap.size < _; (try simp only [World.size_alloc]); omega)).trans (by first | rfl | (simp; done) | (simp [*]; done))
  have k1_0_1 : w1.cell? ⟨w.heap.size, 1, none⟩ = some (.slice (A1p0) n1p0 c1p0) := (hb1.cell (p := ⟨w.heap.size, 1, none⟩) (by show w.heap.size < _; (try simp only [World.size_alloc]); omega)).trans (by first | rfl | (simp; done) | (simp [*]; done))
  have k1_0_2 : w1.cell? ⟨w.heap.size, 2, none⟩ = some (.slice (A2p0) n2p0 c2p0) := (hb1.cell (p := ⟨w.heap.size, 2, none⟩) (by show w.heap.size < _; (try simp only [World.size_alloc]); omega)).trans (by first | rfl | (simp; done) | (simp [*]; done))
  have k1_1_0 : w1.cell? ⟨w.heap.size + 1, 0, none⟩ = some (.int .i64 a0p1) := (hb1.cell (p := ⟨w.heap.size + 1, 0, none⟩) (by show w.heap.size + 1 < _; (try simp only [World.size_alloc]); omega)).trans (by first | rfl | (simp; done) | (simp [*]; done))
  have k1_1_1 : w1.cell? ⟨w.heap.size + 1, 1, none⟩ = some (.slice (A1p1) n1p1 c1p1) := (hb1.cell (p := ⟨w.heap.size + 1, 1, none⟩) (by show w.heap.size + 1 < _; (try simp only [World.size_alloc]); omega)).trans (by first | rfl | (simp; done) | (simp [*]; done))
  have k1_1_2 : w1.cell? ⟨w.heap.size + 1, 2, none⟩ = some (.slice (A2p1) n2p1 c2p1) := (hb1.cell (p := ⟨w.heap.size + 1, 2, none⟩) (by show w.heap.size + 1 < _; (try simp only [World.size_alloc]); omega)).trans (by first | rfl | (simp; done) | (simp [*]; done))
  have bl1_0 : w.heap.size < w1.heap.size := World.block_lt_of_cell? _ _ k1_0_0
  have bl1_1 : w.heap.size + 1 < w1.heap.size := World.block_lt_of_cell? _ _ k1_1_0
  clear hb1 hL1
  go_wp2_with (fail)
  refine (szTableau_t s2 s3 t2).mono ?_
  rintro ee w2 ⟨rfl, hb2⟩
  have hL2 : Below w1.heap.size w1 w2 := by (repeat' (first | (with_reducible exact Below.refl _ _) | (with_reducible assumption) | (with_reducible refine Below.alloc ?_ ?_ _) | (with_reducible refine Below.drew ?_) | (with_reducible refine bdN ?_ _) | (with_reducible refine Below.setCell ?_ ?_ _) | (with_reducible refine chn ?_ (by assumption) ?_) | omega | (simp; done) | (simp; omega)))
  have hz2 := hb2.size
  (try simp only [World.size_alloc] at hz2)
  have hB2 : Below w.heap.size w w2 := chn hB1 hL2 hB1.size
  have k2_0_0 : w2.cell? ⟨w.heap.size, 0, none⟩ = some (.int .i64 a0p0) := (hL2.cell (p := ⟨w.heap.size, 0, none⟩) (by show w.heap.size < w1.heap.size; omega)).trans k1_0_0
  have k2_0_1 : w2.cell? ⟨w.heap.size, 1, none⟩ = some (.slice (A1p0) n1p0 c1p0) := (hL2.cell (p := ⟨w.heap.size, 1, none⟩) (by show w.heap.size < w1.heap.size; omega)).trans k1_0_1
  have k2_0_2 : w2.cell? ⟨w.heap.size, 2, none⟩ = some (.slice (A2p0) n2p0 c2p0) := (hL2.cell (p := ⟨w.heap.size, 2, none⟩) (by show w.heap.size < w1.heap.size; omega)).trans k1_0_2
  have k2_1_0 : w2.cell? ⟨w.heap.size + 1, 0, none⟩ = some (.int .i64 a0p1) := (hL2.cell (p := ⟨w.heap.size + 1, 0, none⟩) (by show w.heap.size + 1 < w1.heap.size; omega)).trans k1_1_0
  have k2_1_1 : w2.cell? ⟨w.heap.size + 1, 1, none⟩ = some (.slice (A1p1) n1p1 c1p1) := (hL2.cell (p := ⟨w.heap.size + 1, 1, none⟩) (by show w.heap.size + 1 < w1.heap.size; omega)).trans k1_1_1
  have k2_1_2 : w2.cell? ⟨w.heap.size + 1, 2, none⟩ = some (.slice (A2p1) n2p1 c2p1) := (hL2.cell (p := ⟨w.heap.size + 1, 2, none⟩) (by show w.heap.size + 1 < w1.heap.size; omega)).trans k1_1_2
  have bl2_0 : w.heap.size < w2.heap.size := World.block_lt_of_cell? _ _ k2_0_0
  have bl2_1 : w.heap.size + 1 < w2.heap.size := World.block_lt_of_cell? _ _ k2_1_0
  clear hb2 hL2
  clear k1_0_0 k1_0_1 k1_0_2 k1_1_0 k1_1_1 k1_1_2
  go_wp2_with (fail)
  go_cut [6, 7] (fun s6 s7 wx => (∃ (b : Nat) (A1 : Option Addr) (c1 : Nat) (A2 : Option Addr) (c2 : Nat), s6 = .pointer (some ⟨b, 0, none⟩) ∧ s7 = .bool r1 ∧ wx.cell? ⟨b, 0, none⟩ = some (.int .i64 a0q0) ∧ wx.cell? ⟨b, 1, none⟩ = some (.slice A1 k1q0 c1) ∧ wx.cell? ⟨b, 2, none⟩ = some (.slice A2 k2q0 c2) ∧ Hid (RdB pauliE wx wx.heap.size A1 zs1q0) ∧ Hid (RdB pauliE wx wx.heap.size A2 zs2q0)) ∧ (wx.cell? ⟨w.heap.size, 0, none⟩ = some (.int .i64 a0p0) ∧ wx.cell? ⟨w.heap.size, 1, none⟩ = some (.slice (A1p0) n1p0 c1p0) ∧ wx.cell? ⟨w.heap.size, 2, none⟩ = some (.slice (A2p0) n2p0 c2p0) ∧ wx.cell? ⟨w.heap.size + 1, 0, none⟩ = some (.int .i64 a0p1) ∧ wx.cell? ⟨w.heap.size + 1, 1, none⟩ = some (.slice (A1p1) n1p1 c1p1) ∧ wx.cell? ⟨w.heap.size + 1, 2, none⟩ = some (.slice (A2p1) n2p1 c2p1) ∧ w2.heap.size ≤ wx.heap.size ∧ Below w.heap.size w wx))
  case first =>
    have yk2_0_0 : w2.drew.cell? ⟨w.heap.size, 0, none⟩ = some (.int .i64 a0p0) := k2_0_0
    have yk2_0_1 : w2.drew.cell? ⟨w.heap.size, 1, none⟩ = some (.slice (A1p0) n1p0 c1p0) := k2_0_1
    have yk2_0_2 : w2.drew.cell? ⟨w.heap.size, 2, none⟩ = some (.slice (A2p0) n2p0 c2p0) := k2_0_2
    have yk2_1_0 : w2.drew.cell? ⟨w.heap.size + 1, 0, none⟩ = some (.int .i64 a0p1) := k2_1_0
    have yk2_1_1 : w2.drew.cell? ⟨w.heap.size + 1, 1, none⟩ = some (.slice (A1p1) n1p1 c1p1) := k2_1_1
    have yk2_1_2 : w2.drew.cell? ⟨w.heap.size + 1, 2, none⟩ = some (.slice (A2p1) n2p1 c2p1) := k2_1_2
    have hBz := hB2.size
    go_region_held3 (fun w' => w'.cell? ⟨w.heap.size, 0, none⟩ = some (.int .i64 a0p0) ∧ w'.cell? ⟨w.heap.size, 1, none⟩ = some (.slice (A1p0) n1p0 c1p0) ∧ w'.cell? ⟨w.heap.size, 2, none⟩ = some (.slice (A2p0) n2p0 c2p0) ∧ w'.cell? ⟨w.heap.size + 1, 0, none⟩ = some (.int .i64 a0p1) ∧ w'.cell? ⟨w.heap.size + 1, 1, none⟩ = some (.slice (A1p1) n1p1 c1p1) ∧ w'.cell? ⟨w.heap.size + 1, 2, none⟩ = some (.slice (A2p1) n2p1 c2p1)) (first | (with_reducible exact ⟨yk2_0_0, yk2_0_1, yk2_0_2, yk2_1_0, yk2_1_1, yk2_1_2⟩) | (with_reducible exact ⟨k2_0_0, k2_0_1, k2_0_2, k2_1_0, k2_1_1, k2_1_2⟩) | (go_split_ands; with_reducible exact ⟨kcl hv0 (by with_reducible assumption), kcl hv0 (by with_reducible assumption), kcl hv0 (by with_reducible assumption), kcl hv0 (by with_reducible assumption), kcl hv0 (by with_reducible assumption), kcl hv0 (by with_reducible assumption)⟩) | (go_split_ands; with_reducible exact ⟨kcl hv1 (by with_reducible assumption), kcl hv1 (by with_reducible assumption), kcl hv1 (by with_reducible assumption), kcl hv1 (by with_reducible assumption), kcl hv1 (by with_reducible assumption), kcl hv1 (by with_reducible assumption)⟩) | (go_split_ands; with_reducible exact ⟨kcl hv2 (by with_reducible assumption), kcl hv2 (by with_reducible assumption), kcl hv2 (by with_reducible assumption), kcl hv2 (by with_reducible assumption), kcl hv2 (by with_reducible assumption), kcl hv2 (by with_reducible assumption)⟩) | (go_split_ands; with_reducible exact ⟨kclAl (by with_reducible assumption), kclAl (by with_reducible assumption), kclAl (by with_reducible assumption), kclAl (by with_reducible assumption), kclAl (by with_reducible assumption), kclAl (by with_reducible assumption)⟩) | (go_split_ands; with_reducible exact ⟨kclAld (by with_reducible assumption), kclAld (by with_reducible assumption), kclAld (by with_reducible assumption), kclAld (by with_reducible assumption), kclAld (by with_reducible assumption), kclAld (by with_reducible assumption)⟩) | (go_split_ands; with_reducible exact ⟨kclRe (by omega) (by with_reducible assumption), kclRe (by omega) (by with_reducible assumption), kclRe (by omega) (by with_reducible assumption), kclRe (by omega) (by with_reducible assumption), kclRe (by omega) (by with_reducible assumption), kclRe (by omega) (by with_reducible assumption)⟩) | (go_split_ands; with_reducible exact ⟨kclS3 (by omega) (by with_reducible assumption), kclS3 (by omega) (by with_reducible assumption), kclS3 (by omega) (by with_reducible assumption), kclS3 (by omega) (by with_reducible assumption), kclS3 (by omega) (by with_reducible assumption), kclS3 (by omega) (by with_reducible assumption)⟩)) (first | (go_at_call 41; ((with_reducible refine (toTableau (xs1 := xs1p0) (xs2 := xs2p0) ?_ ?_ HN1p0.out bn1p0 HN2p0.out bn2p0).mono ?_); (exact HAA1p0.out.mono (by (repeat' (first | (with_reducible exact Below.refl _ _) | (with_reducible assumption) | (with_reducible refine Below.alloc ?_ ?_ _) | (with_reducible refine Below.drew ?_) | (with_reducible refine bdN ?_ _) | (with_reducible refine Below.setCell ?_ ?_ _) | (with_reducible refine chn ?_ (by assumption) ?_) | omega | (simp; done) | (simp; omega))))); (exact HAA2p0.out.mono (by (repeat' (first | (with_reducible exact Below.refl _ _) | (with_reducible assumption) | (with_reducible refine Below.alloc ?_ ?_ _) | (with_reducible refine Below.drew ?_) | (with_reducible refine bdN ?_ _) | (with_reducible refine Below.setCell ?_ ?_ _) | (with_reducible refine chn ?_ (by assumption) ?_) | omega | (simp; done) | (simp; omega))))); rintro ee v0 ⟨g0_1, g0_2, rfl, hK0_1, hK0_2, hg0_1, hg0_2, hv0⟩; obtain ⟨hcv0, hfv0, _⟩ := bcl hv0; have hq0 := hv0.size; (try simp only [World.size_drew, World.size_alloc] at hq0); (try have ho0_0 : w2.heap.size < v0.heap.size := (by omega)); (try have ho0_1 : v1.heap.size < v0.heap.size := (by omega)); (try have ho0_2 : v2.heap.size < v0.heap.size := (by omega)))) | (go_at_call 41; ((with_reducible refine (toTableau (xs1 := xs1p1) (xs2 := xs2p1) ?_ ?_ HN1p1.out bn1p1 HN2p1.out bn2p1).mono ?_); (exact HAA1p1.out.mono (by (repeat' (first | (with_reducible exact Below.refl _ _) | (with_reducible assumption) | (with_reducible refine Below.alloc ?_ ?_ _) | (with_reducible refine Below.drew ?_) | (with_reducible refine bdN ?_ _) | (with_reducible refine Below.setCell ?_ ?_ _) | (with_reducible refine chn ?_ (by assumption) ?_) | omega | (simp; done) | (simp; omega))))); (exact HAA2p1.out.mono (by (repeat' (first | (with_reducible exact Below.refl _ _) | (with_reducible assumption) | (with_reducible refine Below.alloc ?_ ?_ _) | (with_reducible refine Below.drew ?_) | (with_reducible refine bdN ?_ _) | (with_reducible refine Below.setCell ?_ ?_ _) | (with_reducible refine chn ?_ (by assumption) ?_) | omega | (simp; done) | (simp; omega))))); rintro ee v1 ⟨g1_1, g1_2, rfl, hK1_1, hK1_2, hg1_1, hg1_2, hv1⟩; obtain ⟨hcv1, hfv1, _⟩ := bcl hv1; have hq1 := hv1.size; (try simp only [World.size_drew, World.size_alloc] at hq1); (try have ho1_0 : w2.heap.size < v1.heap.size := (by omega)); (try have ho1_1 : v0.heap.size < v1.heap.size := (by omega)); (try have ho1_2 : v2.heap.size < v1.heap.size := (by omega)))) | (go_at_call 53; ((with_reducible refine (HS.out _ _ _ _ _ ?_ ?_ ?_ ?_).mono ?_); (exact (by exact hK0_1.rd.mono (by (repeat' (first | (with_reducible exact Below.refl _ _) | (with_reducible assumption) | (with_reducible refine Below.alloc ?_ ?_ _) | (with_reducible refine Below.drew ?_) | (with_reducible refine bdN ?_ _) | (with_reducible refine Below.setCell ?_ ?_ _) | (with_reducible refine chn ?_ (by assumption) ?_) | omega | (simp; done) | (simp; omega)))))); (exact (by exact hK0_2.rd.mono (by (repeat' (first | (with_reducible exact Below.refl _ _) | (with_reducible assumption) | (with_reducible refine Below.alloc ?_ ?_ _) | (with_reducible refine Below.drew ?_) | (with_reducible refine bdN ?_ _) | (with_reducible refine Below.setCell ?_ ?_ _) | (with_reducible refine chn ?_ (by assumption) ?_) | omega | (simp; done) | (simp; omega)))))); (exact (by exact hK1_1.rd.mono (by (repeat' (first | (with_reducible exact Below.refl _ _) | (with_reducible assumption) | (with_reducible refine Below.alloc ?_ ?_ _) | (with_reducible refine Below.drew ?_) | (with_reducible refine bdN ?_ _) | (with_reducible refine Below.setCell ?_ ?_ _) | (with_reducible refine chn ?_ (by assumption) ?_) | omega | (simp; done) | (simp; omega)))))); (exact (by exact hK1_2.rd.mono (by (repeat' (first | (with_reducible exact Below.refl _ _) | (with_reducible assumption) | (with_reducible refine Below.alloc ?_ ?_ _) | (with_reducible refine Below.drew ?_) | (with_reducible refine bdN ?_ _) | (with_reducible refine Below.setCell ?_ ?_ _) | (with_reducible refine chn ?_ (by assumption) ?_) | omega | (simp; done) | (simp; omega)))))); rintro ee v2 ⟨A8_1, c8_1, A8_2, c8_2, rfl, ⟨hR8_1, hA8_1⟩, ⟨hR8_2, hA8_2⟩, hv2⟩; obtain ⟨hcv2, hfv2, _⟩ := bcl hv2; have hq2 := hv2.size; (try simp only [World.size_drew, World.size_alloc] at hq2); (try have ho2_0 : w2.heap.size < v2.heap.size := (by omega)); (try have ho2_1 : v0.heap.size < v2.heap.size := (by omega)); (try have ho2_2 : v1.heap.size < v2.heap.size := (by omega)))))
    all_goals (go_wp2_with fail; go_meet)
    all_goals go_split_ands
    all_goals (refine ⟨⟨_, A8_1, c8_1, A8_2, c8_2, rfl, rfl, (by first | (go_simp; done) | (simp [*]; done)), (by first | (go_simp; done) | (simp [*]; done)), (by first | (go_simp; done) | (simp [*]; done)), (by exact Rd.b (by (repeat' (first | (with_reducible assumption) | (refine Rd.far ?_ (fun a ha => by have h9 := hA8_1 a ha; (try simp only [World.size_drew, World.size_alloc] at h9); dsimp only; omega) _) | (exact hR8_1.mono (by (repeat' (first | (with_reducible exact Below.refl _ _) | (with_reducible assumption) | (with_reducible refine Below.alloc ?_ ?_ _) | (with_reducible refine Below.drew ?_) | (with_reducible refine bdN ?_ _) | (with_reducible refine Below.setCell ?_ ?_ _) | (with_reducible refine chn ?_ (by assumption) ?_) | omega | (simp; done) | (simp; omega)))))))) (Nat.le_refl _)), (by exact Rd.b (by (repeat' (first | (with_reducible assumption) | (refine Rd.far ?_ (fun a ha => by have h9 := hA8_2 a ha; (try simp only [World.size_drew, World.size_alloc] at h9); dsimp only; omega) _) | (exact hR8_2.mono (by (repeat' (first | (with_reducible exact Below.refl _ _) | (with_reducible assumption) | (with_reducible refine Below.alloc ?_ ?_ _) | (with_reducible refine Below.drew ?_) | (with_reducible refine bdN ?_ _) | (with_reducible refine Below.setCell ?_ ?_ _) | (with_reducible refine chn ?_ (by assumption) ?_) | omega | (simp; done) | (simp; omega)))))))) (Nat.le_refl _))⟩, (by with_reducible assumption), (by with_reducible assumption), (by with_reducible assumption), (by with_reducible assumption), (by with_reducible assumption), (by with_reducible assumption), (by (try simp only [World.size_alloc, World.size_drew, World.size_setCell]); omega), (by (repeat' (first | (with_reducible exact Below.refl _ _) | (with_reducible assumption) | (with_reducible refine Below.alloc ?_ ?_ _) | (with_reducible refine Below.drew ?_) | (with_reducible refine bdN ?_ _) | (with_reducible refine Below.setCell ?_ ?_ _) | (with_reducible refine chn ?_ (by assumption) ?_) | omega | (simp; done) | (simp; omega))))⟩)
  case rest =>
    obtain ⟨w3, rfl⟩ : ∃ w3, w3 = wc := ⟨_, rfl⟩
    clear k2_0_0 k2_0_1 k2_0_2 k2_1_0 k2_1_1 k2_1_2
    obtain ⟨⟨bW3, AW1q0, cW1q0, AW2q0, cW2q0, rfl, rfl, k3_2_0, k3_2_1, k3_2_2, HRW1q0, HRW2q0⟩, k3_0_0, k3_0_1, k3_0_2, k3_1_0, k3_1_1, k3_1_2, hz3, hB3⟩ := hcut
    have bl3_0 : w.heap.size < w3.heap.size := World.block_lt_of_cell? _ _ k3_0_0
    have bl3_1 : w.heap.size + 1 < w3.heap.size := World.block_lt_of_cell? _ _ k3_1_0
    have bl3_2 : bW3 < w3.heap.size := World.block_lt_of_cell? _ _ k3_2_0
    have HW1q03 : Hid (RdB pauliE w3 w3.heap.size AW1q0 zs1q0) := HRW1q0
    clear HRW1q0
    have HW2q03 : Hid (RdB pauliE w3 w3.heap.size AW2q0 zs2q0) := HRW2q0
    clear HRW2q0
    go_wp2_with (fail)
    refine (toTableau ?_ ?_ HN1p0.out bn1p0 HN2p0.out bn2p0).mono ?_
    · exact HAA1p0.out.mono (by (repeat' (first | (with_reducible exact Below.refl _ _) | (with_reducible assumption) | (with_reducible refine Below.alloc ?_ ?_ _) | (with_reducible refine Below.drew ?_) | (with_reducible refine bdN ?_ _) | (with_reducible refine Below.setCell ?_ ?_ _) | (with_reducible refine chn ?_ (by assumption) ?_) | omega | (simp; done) | (simp; omega))))
    · exact HAA2p0.out.mono (by (repeat' (first | (with_reducible exact Below.refl _ _) | (with_reducible assumption) | (with_reducible refine Below.alloc ?_ ?_ _) | (with_reducible refine Below.drew ?_) | (with_reducible refine bdN ?_ _) | (with_reducible refine Below.setCell ?_ ?_ _) | (with_reducible refine chn ?_ (by assumption) ?_) | omega | (simp; done) | (simp; omega))))
    rintro ee w4 ⟨g4_1, g4_2, rfl, hK4_1, hK4_2, hg4_1, hg4_2, hb4⟩
    have hL4 : Below w3.heap.size w3 w4 := by (repeat' (first | (with_reducible exact Below.refl _ _) | (with_reducible assumption) | (with_reducible refine Below.alloc ?_ ?_ _) | (with_reducible refine Below.drew ?_) | (with_reducible refine bdN ?_ _) | (with_reducible refine Below.setCell ?_ ?_ _) | (with_reducible refine chn ?_ (by assumption) ?_) | omega | (simp; done) | (simp; omega)))
    have hz4 := hb4.size
    (try simp only [World.size_alloc] at hz4)
    have hB4 : Below w.heap.size w w4 := chn hB3 hL4 hB3.size
    have k4_0_0 : w4.cell? ⟨w.heap.size, 0, none⟩ = some (.int .i64 a0p0) := (hL4.cell (p := ⟨w.heap.size, 0, none⟩) (by show w.heap.size < w3.heap.size; omega)).trans k3_0_0
    have k4_0_1 : w4.cell? ⟨w.heap.size, 1, none⟩ = some (.slice (A1p0) n1p0 c1p0) := (hL4.cell (p := ⟨w.heap.size, 1, none⟩) (by show w.heap.size < w3.heap.size; omega)).trans k3_0_1
    have k4_0_2 : w4.cell? ⟨w.heap.size, 2, none⟩ = some (.slice (A2p0) n2p0 c2p0) := (hL4.cell (p := ⟨w.heap.size, 2, none⟩) (by show w.heap.size < w3.heap.size; omega)).trans k3_0_2
    have k4_1_0 : w4.cell? ⟨w.heap.size + 1, 0, none⟩ = some (.int .i64 a0p1) := (hL4.cell (p := ⟨w.heap.size + 1, 0, none⟩) (by show w.heap.size + 1 < w3.heap.size; omega)).trans k3_1_0
    have k4_1_1 : w4.cell? ⟨w.heap.size + 1, 1, none⟩ = some (.slice (A1p1) n1p1 c1p1) := (hL4.cell (p := ⟨w.heap.size + 1, 1, none⟩) (by show w.heap.size + 1 < w3.heap.size; omega)).trans k3_1_1
    have k4_1_2 : w4.cell? ⟨w.heap.size + 1, 2, none⟩ = some (.slice (A2p1) n2p1 c2p1) := (hL4.cell (p := ⟨w.heap.size + 1, 2, none⟩) (by show w.heap.size + 1 < w3.heap.size; omega)).trans k3_1_2
    have k4_2_0 : w4.cell? ⟨bW3, 0, none⟩ = some (.int .i64 a0q0) := (hL4.cell (p := ⟨bW3, 0, none⟩) (by show bW3 < w3.heap.size; omega)).trans k3_2_0
    have k4_2_1 : w4.cell? ⟨bW3, 1, none⟩ = some (.slice AW1q0 k1q0 cW1q0) := (hL4.cell (p := ⟨bW3, 1, none⟩) (by show bW3 < w3.heap.size; omega)).trans k3_2_1
    have k4_2_2 : w4.cell? ⟨bW3, 2, none⟩ = some (.slice AW2q0 k2q0 cW2q0) := (hL4.cell (p := ⟨bW3, 2, none⟩) (by show bW3 < w3.heap.size; omega)).trans k3_2_2
    have bl4_0 : w.heap.size < w4.heap.size := World.block_lt_of_cell? _ _ k4_0_0
    have bl4_1 : w.heap.size + 1 < w4.heap.size := World.block_lt_of_cell? _ _ k4_1_0
    have bl4_2 : bW3 < w4.heap.size := World.block_lt_of_cell? _ _ k4_2_0
    have HW1q04 := lay (HW1q03.out.mono hL4)
    have HW2q04 := lay (HW2q03.out.mono hL4)
    clear hb4 hL4
    clear k3_0_0 k3_0_1 k3_0_2 k3_1_0 k3_1_1 k3_1_2 k3_2_0 k3_2_1 k3_2_2 HW1q03 HW2q03
    (try simp only [World.size_alloc] at hg4_1)
    have HX04 : Hid (Ow pauliE w4 (w3.heap.size) 45 (some ⟨g4_1, 0, none⟩) xs1p0) := hK4_1.ow (by omega)
    clear hK4_1
    have hr_X0 := HX04.out.row
    have HX14 : Hid (Ow pauliE w4 (g4_1 + 1) 45 (some ⟨g4_2, 0, none⟩) xs2p0) := hK4_2.ow (by omega)
    clear hK4_2
    have hr_X1 := HX14.out.row
    have hne_X0 : ∀ r, blk (some ⟨g4_1, 0, none⟩) = some r → blk (some ⟨g4_2, 0, none⟩) ≠ some r := fun r h1 h2 => by cases h1; cases h2; omega
    go_wp2_with (fail)
    refine (toTableau ?_ ?_ HN1p1.out bn1p1 HN2p1.out bn2p1).mono ?_
    · exact HAA1p1.out.mono (by (repeat' (first | (with_reducible exact Below.refl _ _) | (with_reducible assumption) | (with_reducible refine Below.alloc ?_ ?_ _) | (with_reducible refine Below.drew ?_) | (with_reducible refine bdN ?_ _) | (with_reducible refine Below.setCell ?_ ?_ _) | (with_reducible refine chn ?_ (by assumption) ?_) | omega | (simp; done) | (simp; omega))))
    · exact HAA2p1.out.mono (by (repeat' (first | (with_reducible exact Below.refl _ _) | (with_reducible assumption) | (with_reducible refine Below.alloc ?_ ?_ _) | (with_reducible refine Below.drew ?_) | (with_reducible refine bdN ?_ _) | (with_reducible refine Below.setCell ?_ ?_ _) | (with_reducible refine chn ?_ (by assumption) ?_) | omega | (simp; done) | (simp; omega))))
    rintro ee w5 ⟨g5_1, g5_2, rfl, hK5_1, hK5_2, hg5_1, hg5_2, hb5⟩
    have hL5 : Below w4.heap.size w4 w5 := by (repeat' (first | (with_reducible exact Below.refl _ _) | (with_reducible assumption) | (with_reducible refine Below.alloc ?_ ?_ _) | (with_reducible refine Below.drew ?_) | (with_reducible refine bdN ?_ _) | (with_reducible refine Below.setCell ?_ ?_ _) | (with_reducible refine chn ?_ (by assumption) ?_) | omega | (simp; done) | (simp; omega)))
    have hz5 := hb5.size
    (try simp only [World.size_alloc] at hz5)
    have hB5 : Below w.heap.size w w5 := chn hB4 hL5 hB4.size
    have k5_0_0 : w5.cell? ⟨w.heap.size, 0, none⟩ = some (.int .i64 a0p0) := (hL5.cell (p := ⟨w.heap.size, 0, none⟩) (by show w.heap.size < w4.heap.size; omega)).trans k4_0_0
    have k5_0_1 : w5.cell? ⟨w.heap.size, 1, none⟩ = some (.slice (A1p0) n1p0 c1p0) := (hL5.cell (p := ⟨w.heap.size, 1, none⟩) (by show w.heap.size < w4.heap.size; omega)).trans k4_0_1
    have k5_0_2 : w5.cell? ⟨w.heap.size, 2, none⟩ = some (.slice (A2p0) n2p0 c2p0) := (hL5.cell (p := ⟨w.heap.size, 2, none⟩) (by show w.heap.size < w4.heap.size; omega)).trans k4_0_2
    have k5_1_0 : w5.cell? ⟨w.heap.size + 1, 0, none⟩ = some (.int .i64 a0p1) := (hL5.cell (p := ⟨w.heap.size + 1, 0, none⟩) (by show w.heap.size + 1 < w4.heap.size; omega)).trans k4_1_0
    have k5_1_1 : w5.cell? ⟨w.heap.size + 1, 1, none⟩ = some (.slice (A1p1) n1p1 c1p1) := (hL5.cell (p := ⟨w.heap.size + 1, 1, none⟩) (by show w.heap.size + 1 < w4.heap.size; omega)).trans k4_1_1
    have k5_1_2 : w5.cell? ⟨w.heap.size + 1, 2, none⟩ = some (.slice (A2p1) n2p1 c2p1) := (hL5.cell (p := ⟨w.heap.size + 1, 2, none⟩) (by show w.heap.size + 1 < w4.heap.size; omega)).trans k4_1_2
    have k5_2_0 : w5.cell? ⟨bW3, 0, none⟩ = some (.int .i64 a0q0) := (hL5.cell (p := ⟨bW3, 0, none⟩) (by show bW3 < w4.heap.size; omega)).trans k4_2_0
    have k5_2_1 : w5.cell? ⟨bW3, 1, none⟩ = some (.slice AW1q0 k1q0 cW1q0) := (hL5.cell (p := ⟨bW3, 1, none⟩) (by show bW3 < w4.heap.size; omega)).trans k4_2_1
    have k5_2_2 : w5.cell? ⟨bW3, 2, none⟩ = some (.slice AW2q0 k2q0 cW2q0) := (hL5.cell (p := ⟨bW3, 2, none⟩) (by show bW3 < w4.heap.size; omega)).trans k4_2_2
    have k5_3_0 : w5.cell? ⟨w4.heap.size, 0, none⟩ = some (.int .i64 a0p0) := (hb5.cell (p := ⟨w4.heap.size, 0, none⟩) (by show w4.heap.size < _; (try simp only [World.size_alloc]); omega)).trans (by first | rfl | (simp; done) | (simp [*]; done))
    have k5_3_1 : w5.cell? ⟨w4.heap.size, 1, none⟩ = some (.slice (some ⟨g4_1, 0, none⟩) n1p0 n1p0) := (hb5.cell (p := ⟨w4.heap.size, 1, none⟩) (by show w4.heap.size < _; (try simp only [World.size_alloc]); omega)).trans (by first | rfl | (simp; done) | (simp [*]; done))
    have k5_3_2 : w5.cell? ⟨w4.heap.size, 2, none⟩ = some (.slice (some ⟨g4_2, 0, none⟩) n2p0 n2p0) := (hb5.cell (p := ⟨w4.heap.size, 2, none⟩) (by show w4.heap.size < _; (try simp only [World.size_alloc]); omega)).trans (by first | rfl | (simp; done) | (simp [*]; done))
    have bl5_0 : w.heap.size < w5.heap.size := World.block_lt_of_cell? _ _ k5_0_0
    have bl5_1 : w.heap.size + 1 < w5.heap.size := World.block_lt_of_cell? _ _ k5_1_0
    have bl5_2 : bW3 < w5.heap.size := World.block_lt_of_cell? _ _ k5_2_0
    have bl5_3 : w4.heap.size < w5.heap.size := World.block_lt_of_cell? _ _ k5_3_0
    have HW1q05 := lay (HW1q04.out.mono hL5)
    have HW2q05 := lay (HW2q04.out.mono hL5)
    have HX05 := lay (HX04.out.mono hL5)
    have HX15 := lay (HX14.out.mono hL5)
    clear hb5 hL5
    clear k4_0_0 k4_0_1 k4_0_2 k4_1_0 k4_1_1 k4_1_2 k4_2_0 k4_2_1 k4_2_2 HW1q04 HW2q04 HX04 HX14
    (try simp only [World.size_alloc] at hg5_1)
    have HX25 : Hid (Ow pauliE w5 (w4.heap.size + 1) 45 (some ⟨g5_1, 0, none⟩) xs1p1) := hK5_1.ow (by omega)
    clear hK5_1
    have hr_X2 := HX25.out.row
    have HX35 : Hid (Ow pauliE w5 (g5_1 + 1) 45 (some ⟨g5_2, 0, none⟩) xs2p1) := hK5_2.ow (by omega)
    clear hK5_2
    have hr_X3 := HX35.out.row
    have hne_X2 : ∀ r, blk (some ⟨g5_1, 0, none⟩) = some r → blk (some ⟨g5_2, 0, none⟩) ≠ some r := fun r h1 h2 => by cases h1; cases h2; omega
    go_wp2_with (fail)
    refine (HI.out _ _ _ _ _ ?_ ?_ ?_ ?_).mono ?_
    · exact HX05.out.rd.mono (by (repeat' (first | (with_reducible exact Below.refl _ _) | (with_reducible assumption) | (with_reducible refine Below.alloc ?_ ?_ _) | (with_reducible refine Below.drew ?_) | (with_reducible refine bdN ?_ _) | (with_reducible refine Below.setCell ?_ ?_ _) | (with_reducible refine chn ?_ (by assumption) ?_) | omega | (simp; done) | (simp; omega))))
    · exact HX15.out.rd.mono (by (repeat' (first | (with_reducible exact Below.refl _ _) | (with_reducible assumption) | (with_reducible refine Below.alloc ?_ ?_ _) | (with_reducible refine Below.drew ?_) | (with_reducible refine bdN ?_ _) | (with_reducible refine Below.setCell ?_ ?_ _) | (with_reducible refine chn ?_ (by assumption) ?_) | omega | (simp; done) | (simp; omega))))
    · exact HX25.out.rd.mono (by (repeat' (first | (with_reducible exact Below.refl _ _) | (with_reducible assumption) | (with_reducible refine Below.alloc ?_ ?_ _) | (with_reducible refine Below.drew ?_) | (with_reducible refine bdN ?_ _) | (with_reducible refine Below.setCell ?_ ?_ _) | (with_reducible refine chn ?_ (by assumption) ?_) | omega | (simp; done) | (simp; omega))))
    · exact HX35.out.rd.mono (by (repeat' (first | (with_reducible exact Below.refl _ _) | (with_reducible assumption) | (with_reducible refine Below.alloc ?_ ?_ _) | (with_reducible refine Below.drew ?_) | (with_reducible refine bdN ?_ _) | (with_reducible refine Below.setCell ?_ ?_ _) | (with_reducible refine chn ?_ (by assumption) ?_) | omega | (simp; done) | (simp; omega))))
    rintro ee w6 ⟨A6_1q0, c6_1q0, A6_2q0, c6_2q0, rfl, hO6_1q0, hO6_2q0, hNE6, hb6⟩
    have hL6 : Below w5.heap.size w5 w6 := by (repeat' (first | (with_reducible exact Below.refl _ _) | (with_reducible assumption) | (with_reducible refine Below.alloc ?_ ?_ _) | (with_reducible refine Below.drew ?_) | (with_reducible refine bdN ?_ _) | (with_reducible refine Below.setCell ?_ ?_ _) | (with_reducible refine chn ?_ (by assumption) ?_) | omega | (simp; done) | (simp; omega)))
    have hz6 := hb6.size
    (try simp only [World.size_alloc] at hz6)
    have hB6 : Below w.heap.size w w6 := chn hB5 hL6 hB5.size
    have k6_0_0 : w6.cell? ⟨w.heap.size, 0, none⟩ = some (.int .i64 a0p0) := (hL6.cell (p := ⟨w.heap.size, 0, none⟩) (by show w.heap.size < w5.heap.size; omega)).trans k5_0_0
    have k6_0_1 : w6.cell? ⟨w.heap.size, 1, none⟩ = some (.slice (A1p0) n1p0 c1p0) := (hL6.cell (p := ⟨w.heap.size, 1, none⟩) (by show w.heap.size < w5.heap.size; omega)).trans k5_0_1
    have k6_0_2 : w6.cell? ⟨w.heap.size, 2, none⟩ = some (.slice (A2p0) n2p0 c2p0) := (hL6.cell (p := ⟨w.heap.size, 2, none⟩) (by show w.heap.size < w5.heap.size; omega)).trans k5_0_2
    have k6_1_0 : w6.cell? ⟨w.heap.size + 1, 0, none⟩ = some (.int .i64 a0p1) := (hL6.cell (p := ⟨w.heap.size + 1, 0, none⟩) (by show w.heap.size + 1 < w5.heap.size; omega)).trans k5_1_0
    have k6_1_1 : w6.cell? ⟨w.heap.size + 1, 1, none⟩ = some (.slice (A1p1) n1p1 c1p1) := (hL6.cell (p := ⟨w.heap.size + 1, 1, none⟩) (by show w.heap.size + 1 < w5.heap.size; omega)).trans k5_1_1
    have k6_1_2 : w6.cell? ⟨w.heap.size + 1, 2, none⟩ = some (.slice (A2p1) n2p1 c2p1) := (hL6.cell (p := ⟨w.heap.size + 1, 2, none⟩) (by show w.heap.size + 1 < w5.heap.size; omega)).trans k5_1_2
    have k6_2_0 : w6.cell? ⟨bW3, 0, none⟩ = some (.int .i64 a0q0) := (hL6.cell (p := ⟨bW3, 0, none⟩) (by show bW3 < w5.heap.size; omega)).trans k5_2_0
    have k6_2_1 : w6.cell? ⟨bW3, 1, none⟩ = some (.slice AW1q0 k1q0 cW1q0) := (hL6.cell (p := ⟨bW3, 1, none⟩) (by show bW3 < w5.heap.size; omega)).trans k5_2_1
    have k6_2_2 : w6.cell? ⟨bW3, 2, none⟩ = some (.slice AW2q0 k2q0 cW2q0) := (hL6.cell (p := ⟨bW3, 2, none⟩) (by show bW3 < w5.heap.size; omega)).trans k5_2_2
    have k6_3_0 : w6.cell? ⟨w4.heap.size, 0, none⟩ = some (.int .i64 a0p0) := (hL6.cell (p := ⟨w4.heap.size, 0, none⟩) (by show w4.heap.size < w5.heap.size; omega)).trans k5_3_0
    have k6_3_1 : w6.cell? ⟨w4.heap.size, 1, none⟩ = some (.slice (some ⟨g4_1, 0, none⟩) n1p0 n1p0) := (hL6.cell (p := ⟨w4.heap.size, 1, none⟩) (by show w4.heap.size < w5.heap.size; omega)).trans k5_3_1
    have k6_3_2 : w6.cell? ⟨w4.heap.size, 2, none⟩ = some (.slice (some ⟨g4_2, 0, none⟩) n2p0 n2p0) := (hL6.cell (p := ⟨w4.heap.size, 2, none⟩) (by show w4.heap.size < w5.heap.size; omega)).trans k5_3_2
    have k6_4_0 : w6.cell? ⟨w5.heap.size, 0, none⟩ = some (.int .i64 a0p1) := (hb6.cell (p := ⟨w5.heap.size, 0, none⟩) (by show w5.heap.size < _; (try simp only [World.size_alloc]); omega)).trans (by first | rfl | (simp; done) | (simp [*]; done))
    have k6_4_1 : w6.cell? ⟨w5.heap.size, 1, none⟩ = some (.slice (some ⟨g5_1, 0, none⟩) n1p1 n1p1) := (hb6.cell (p := ⟨w5.heap.size, 1, none⟩) (by show w5.heap.size < _; (try simp only [World.size_alloc]); omega)).trans (by first | rfl | (simp; done) | (simp [*]; done))
    have k6_4_2 : w6.cell? ⟨w5.heap.size, 2, none⟩ = some (.slice (some ⟨g5_2, 0, none⟩) n2p1 n2p1) := (hb6.cell (p := ⟨w5.heap.size, 2, none⟩) (by show w5.heap.size < _; (try simp only [World.size_alloc]); omega)).trans (by first | rfl | (simp; done) | (simp [*]; done))
    have bl6_0 : w.heap.size < w6.heap.size := World.block_lt_of_cell? _ _ k6_0_0
    have bl6_1 : w.heap.size + 1 < w6.heap.size := World.block_lt_of_cell? _ _ k6_1_0
    have bl6_2 : bW3 < w6.heap.size := World.block_lt_of_cell? _ _ k6_2_0
    have bl6_3 : w4.heap.size < w6.heap.size := World.block_lt_of_cell? _ _ k6_3_0
    have bl6_4 : w5.heap.size < w6.heap.size := World.block_lt_of_cell? _ _ k6_4_0
    have HW1q06 := lay (HW1q05.out.mono hL6)
    have HW2q06 := lay (HW2q05.out.mono hL6)
    have HX06 := lay (HX05.out.mono hL6)
    have HX16 := lay (HX15.out.mono hL6)
    have HX26 := lay (HX25.out.mono hL6)
    have HX36 := lay (HX35.out.mono hL6)
    clear hb6 hL6
    clear k5_0_0 k5_0_1 k5_0_2 k5_1_0 k5_1_1 k5_1_2 k5_2_0 k5_2_1 k5_2_2 k5_3_0 k5_3_1 k5_3_2 HW1q05 HW2q05 HX05 HX15 HX25 HX35
    (try simp only [World.size_alloc] at hO6_1q0)
    have HG1q06 : Hid (Ow pauliE w6 (w5.heap.size + 1) 45 A6_1q0 zs1q0) := hO6_1q0.dn (by omega)
    clear hO6_1q0
    have hr_G1q0 := HG1q06.out.row
    (try simp only [World.size_alloc] at hO6_2q0)
    have HG2q06 : Hid (Ow pauliE w6 (w5.heap.size + 1) 45 A6_2q0 zs2q0) := hO6_2q0.dn (by omega)
    clear hO6_2q0
    have hr_G2q0 := HG2q06.out.row
    go_wp2_with (fail)
    refine (eqTableau (xs1 := zs1q0) (xs2 := zs2q0) ?_ ?_ ?_ ?_ HZ1q0.out hk1q0 HZ2q0.out hk2q0).mono ?_
    · exact HG1q06.out.rd.mono (by (repeat' (first | (with_reducible exact Below.refl _ _) | (with_reducible assumption) | (with_reducible refine Below.alloc ?_ ?_ _) | (with_reducible refine Below.drew ?_) | (with_reducible refine bdN ?_ _) | (with_reducible refine Below.setCell ?_ ?_ _) | (with_reducible refine chn ?_ (by assumption) ?_) | omega | (simp; done) | (simp; omega))))
    · exact HG2q06.out.rd.mono (by (repeat' (first | (with_reducible exact Below.refl _ _) | (with_reducible assumption) | (with_reducible refine Below.alloc ?_ ?_ _) | (with_reducible refine Below.drew ?_) | (with_reducible refine bdN ?_ _) | (with_reducible refine Below.setCell ?_ ?_ _) | (with_reducible refine chn ?_ (by assumption) ?_) | omega | (simp; done) | (simp; omega))))
    · exact HW1q06.out.rd.mono (by (repeat' (first | (with_reducible exact Below.refl _ _) | (with_reducible assumption) | (with_reducible refine Below.alloc ?_ ?_ _) | (with_reducible refine Below.drew ?_) | (with_reducible refine bdN ?_ _) | (with_reducible refine Below.setCell ?_ ?_ _) | (with_reducible refine chn ?_ (by assumption) ?_) | omega | (simp; done) | (simp; omega))))
    · exact HW2q06.out.rd.mono (by (repeat' (first | (with_reducible exact Below.refl _ _) | (with_reducible assumption) | (with_reducible refine Below.alloc ?_ ?_ _) | (with_reducible refine Below.drew ?_) | (with_reducible refine bdN ?_ _) | (with_reducible refine Below.setCell ?_ ?_ _) | (with_reducible refine chn ?_ (by assumption) ?_) | omega | (simp; done) | (simp; omega))))
    rintro ee w7 ⟨rfl, hb7⟩
    have hL7 : Below w6.heap.size w6 w7 := by (repeat' (first | (with_reducible exact Below.refl _ _) | (with_reducible assumption) | (with_reducible refine Below.alloc ?_ ?_ _) | (with_reducible refine Below.drew ?_) | (with_reducible refine bdN ?_ _) | (with_reducible refine Below.setCell ?_ ?_ _) | (with_reducible refine chn ?_ (by assumption) ?_) | omega | (simp; done) | (simp; omega)))
    have hz7 := hb7.size
    (try simp only [World.size_alloc] at hz7)
    have hB7 : Below w.heap.size w w7 := chn hB6 hL7 hB6.size
    have k7_0_0 : w7.cell? ⟨w.heap.size, 0, none⟩ = some (.int .i64 a0p0) := (hL7.cell (p := ⟨w.heap.size, 0, none⟩) (by show w.heap.size < w6.heap.size; omega)).trans k6_0_0
    have k7_0_1 : w7.cell? ⟨w.heap.size, 1, none⟩ = some (.slice (A1p0) n1p0 c1p0) := (hL7.cell (p := ⟨w.heap.size, 1, none⟩) (by show w.heap.size < w6.heap.size; omega)).trans k6_0_1
    have k7_0_2 : w7.cell? ⟨w.heap.size, 2, none⟩ = some (.slice (A2p0) n2p0 c2p0) := (hL7.cell (p := ⟨w.heap.size, 2, none⟩) (by show w.heap.size < w6.heap.size; omega)).trans k6_0_2
    have k7_1_0 : w7.cell? ⟨w.heap.size + 1, 0, none⟩ = some (.int .i64 a0p1) := (hL7.cell (p := ⟨w.heap.size + 1, 0, none⟩) (by show w.heap.size + 1 < w6.heap.size; omega)).trans k6_1_0
    have k7_1_1 : w7.cell? ⟨w.heap.size + 1, 1, none⟩ = some (.slice (A1p1) n1p1 c1p1) := (hL7.cell (p := ⟨w.heap.size + 1, 1, none⟩) (by show w.heap.size + 1 < w6.heap.size; omega)).trans k6_1_1
    have k7_1_2 : w7.cell? ⟨w.heap.size + 1, 2, none⟩ = some (.slice (A2p1) n2p1 c2p1) := (hL7.cell (p := ⟨w.heap.size + 1, 2, none⟩) (by show w.heap.size + 1 < w6.heap.size; omega)).trans k6_1_2
    have k7_2_0 : w7.cell? ⟨bW3, 0, none⟩ = some (.int .i64 a0q0) := (hL7.cell (p := ⟨bW3, 0, none⟩) (by show bW3 < w6.heap.size; omega)).trans k6_2_0
    have k7_2_1 : w7.cell? ⟨bW3, 1, none⟩ = some (.slice AW1q0 k1q0 cW1q0) := (hL7.cell (p := ⟨bW3, 1, none⟩) (by show bW3 < w6.heap.size; omega)).trans k6_2_1
    have k7_2_2 : w7.cell? ⟨bW3, 2, none⟩ = some (.slice AW2q0 k2q0 cW2q0) := (hL7.cell (p := ⟨bW3, 2, none⟩) (by show bW3 < w6.heap.size; omega)).trans k6_2_2
    have k7_3_0 : w7.cell? ⟨w4.heap.size, 0, none⟩ = some (.int .i64 a0p0) := (hL7.cell (p := ⟨w4.heap.size, 0, none⟩) (by show w4.heap.size < w6.heap.size; omega)).trans k6_3_0
    have k7_3_1 : w7.cell? ⟨w4.heap.size, 1, none⟩ = some (.slice (some ⟨g4_1, 0, none⟩) n1p0 n1p0) := (hL7.cell (p := ⟨w4.heap.size, 1, none⟩) (by show w4.heap.size < w6.heap.size; omega)).trans k6_3_1
    have k7_3_2 : w7.cell? ⟨w4.heap.size, 2, none⟩ = some (.slice (some ⟨g4_2, 0, none⟩) n2p0 n2p0) := (hL7.cell (p := ⟨w4.heap.size, 2, none⟩) (by show w4.heap.size < w6.heap.size; omega)).trans k6_3_2
    have k7_4_0 : w7.cell? ⟨w5.heap.size, 0, none⟩ = some (.int .i64 a0p1) := (hL7.cell (p := ⟨w5.heap.size, 0, none⟩) (by show w5.heap.size < w6.heap.size; omega)).trans k6_4_0
    have k7_4_1 : w7.cell? ⟨w5.heap.size, 1, none⟩ = some (.slice (some ⟨g5_1, 0, none⟩) n1p1 n1p1) := (hL7.cell (p := ⟨w5.heap.size, 1, none⟩) (by show w5.heap.size < w6.heap.size; omega)).trans k6_4_1
    have k7_4_2 : w7.cell? ⟨w5.heap.size, 2, none⟩ = some (.slice (some ⟨g5_2, 0, none⟩) n2p1 n2p1) := (hL7.cell (p := ⟨w5.heap.size, 2, none⟩) (by show w5.heap.size < w6.heap.size; omega)).trans k6_4_2
    have k7_5_0 : w7.cell? ⟨w6.heap.size, 0, none⟩ = some (.int .i64 a0q0) := (hb7.cell (p := ⟨w6.heap.size, 0, none⟩) (by show w6.heap.size < _; (try simp only [World.size_alloc]); omega)).trans (by first | rfl | (simp; done) | (simp [*]; done))
    have k7_5_1 : w7.cell? ⟨w6.heap.size, 1, none⟩ = some (.slice A6_1q0 k1q0 c6_1q0) := (hb7.cell (p := ⟨w6.heap.size, 1, none⟩) (by show w6.heap.size < _; (try simp only [World.size_alloc]); omega)).trans (by first | rfl | (simp; done) | (simp [*]; done))
    have k7_5_2 : w7.cell? ⟨w6.heap.size, 2, none⟩ = some (.slice A6_2q0 k2q0 c6_2q0) := (hb7.cell (p := ⟨w6.heap.size, 2, none⟩) (by show w6.heap.size < _; (try simp only [World.size_alloc]); omega)).trans (by first | rfl | (simp; done) | (simp [*]; done))
    have bl7_0 : w.heap.size < w7.heap.size := World.block_lt_of_cell? _ _ k7_0_0
    have bl7_1 : w.heap.size + 1 < w7.heap.size := World.block_lt_of_cell? _ _ k7_1_0
    have bl7_2 : bW3 < w7.heap.size := World.block_lt_of_cell? _ _ k7_2_0
    have bl7_3 : w4.heap.size < w7.heap.size := World.block_lt_of_cell? _ _ k7_3_0
    have bl7_4 : w5.heap.size < w7.heap.size := World.block_lt_of_cell? _ _ k7_4_0
    have bl7_5 : w6.heap.size < w7.heap.size := World.block_lt_of_cell? _ _ k7_5_0
    have HW1q07 := lay (HW1q06.out.mono hL7)
    have HW2q07 := lay (HW2q06.out.mono hL7)
    have HX07 := lay (HX06.out.mono hL7)
    have HX17 := lay (HX16.out.mono hL7)
    have HX27 := lay (HX26.out.mono hL7)
    have HX37 := lay (HX36.out.mono hL7)
    have HG1q07 := lay (HG1q06.out.mono hL7)
    have HG2q07 := lay (HG2q06.out.mono hL7)
    clear hb7 hL7
    clear k6_0_0 k6_0_1 k6_0_2 k6_1_0 k6_1_1 k6_1_2 k6_2_0 k6_2_1 k6_2_2 k6_3_0 k6_3_1 k6_3_2 k6_4_0 k6_4_1 k6_4_2 HW1q06 HW2q06 HX06 HX16 HX26 HX36 HG1q06 HG2q06
    go_wp2_with (fail)
    go_cut [58] (fun s58 wx => (s58 = .bool false) ∧ (wx.cell? ⟨w.heap.size, 0, none⟩ = some (.int .i64 a0p0) ∧ wx.cell? ⟨w.heap.size, 1, none⟩ = some (.slice (A1p0) n1p0 c1p0) ∧ wx.cell? ⟨w.heap.size, 2, none⟩ = some (.slice (A2p0) n2p0 c2p0) ∧ wx.cell? ⟨w.heap.size + 1, 0, none⟩ = some (.int .i64 a0p1) ∧ wx.cell? ⟨w.heap.size + 1, 1, none⟩ = some (.slice (A1p1) n1p1 c1p1) ∧ wx.cell? ⟨w.heap.size + 1, 2, none⟩ = some (.slice (A2p1) n2p1 c2p1) ∧ wx.cell? ⟨bW3, 0, none⟩ = some (.int .i64 a0q0) ∧ wx.cell? ⟨bW3, 1, none⟩ = some (.slice AW1q0 k1q0 cW1q0) ∧ wx.cell? ⟨bW3, 2, none⟩ = some (.slice AW2q0 k2q0 cW2q0) ∧ wx.cell? ⟨w4.heap.size, 0, none⟩ = some (.int .i64 a0p0) ∧ wx.cell? ⟨w4.heap.size, 1, none⟩ = some (.slice (some ⟨g4_1, 0, none⟩) n1p0 n1p0) ∧ wx.cell? ⟨w4.heap.size, 2, none⟩ = some (.slice (some ⟨g4_2, 0, none⟩) n2p0 n2p0) ∧ wx.cell? ⟨w5.heap.size, 0, none⟩ = some (.int .i64 a0p1) ∧ wx.cell? ⟨w5.heap.size, 1, none⟩ = some (.slice (some ⟨g5_1, 0, none⟩) n1p1 n1p1) ∧ wx.cell? ⟨w5.heap.size, 2, none⟩ = some (.slice (some ⟨g5_2, 0, none⟩) n2p1 n2p1) ∧ wx.cell? ⟨w6.heap.size, 0, none⟩ = some (.int .i64 a0q0) ∧ wx.cell? ⟨w6.heap.size, 1, none⟩ = some (.slice A6_1q0 k1q0 c6_1q0) ∧ wx.cell? ⟨w6.heap.size, 2, none⟩ = some (.slice A6_2q0 k2q0 c6_2q0) ∧ Hid (RdB pauliE wx w3.heap.size AW1q0 zs1q0) ∧ Hid (RdB pauliE wx w3.heap.size AW2q0 zs2q0) ∧ Hid (Ow pauliE wx (w3.heap.size) 45 (some ⟨g4_1, 0, none⟩) xs1p0) ∧ Hid (Ow pauliE wx (g4_1 + 1) 45 (some ⟨g4_2, 0, none⟩) xs2p0) ∧ Hid (Ow pauliE wx (w4.heap.size + 1) 45 (some ⟨g5_1, 0, none⟩) xs1p1) ∧ Hid (Ow pauliE wx (g5_1 + 1) 45 (some ⟨g5_2, 0, none⟩) xs2p1) ∧ Hid (Ow pauliE wx (w5.heap.size + 1) 45 A6_1q0 zs1q0) ∧ Hid (Ow pauliE wx (w5.heap.size + 1) 45 A6_2q0 zs2q0) ∧ w7.heap.size ≤ wx.heap.size ∧ Below w.heap.size w wx))
    case first =>
      have yk7_0_0 : w7.drew.cell? ⟨w.heap.size, 0, none⟩ = some (.int .i64 a0p0) := k7_0_0
      have yk7_0_1 : w7.drew.cell? ⟨w.heap.size, 1, none⟩ = some (.slice (A1p0) n1p0 c1p0) := k7_0_1
      have yk7_0_2 : w7.drew.cell? ⟨w.heap.size, 2, none⟩ = some (.slice (A2p0) n2p0 c2p0) := k7_0_2
      have yk7_1_0 : w7.drew.cell? ⟨w.heap.size + 1, 0, none⟩ = some (.int .i64 a0p1) := k7_1_0
      have yk7_1_1 : w7.drew.cell? ⟨w.heap.size + 1, 1, none⟩ = some (.slice (A1p1) n1p1 c1p1) := k7_1_1
      have yk7_1_2 : w7.drew.cell? ⟨w.heap.size + 1, 2, none⟩ = some (.slice (A2p1) n2p1 c2p1) := k7_1_2
      have yk7_2_0 : w7.drew.cell? ⟨bW3, 0, none⟩ = some (.int .i64 a0q0) := k7_2_0
      have yk7_2_1 : w7.drew.cell? ⟨bW3, 1, none⟩ = some (.slice AW1q0 k1q0 cW1q0) := k7_2_1
      have yk7_2_2 : w7.drew.cell? ⟨bW3, 2, none⟩ = some (.slice AW2q0 k2q0 cW2q0) := k7_2_2
      have yk7_3_0 : w7.drew.cell? ⟨w4.heap.size, 0, none⟩ = some (.int .i64 a0p0) := k7_3_0
      have yk7_3_1 : w7.drew.cell? ⟨w4.heap.size, 1, none⟩ = some (.slice (some ⟨g4_1, 0, none⟩) n1p0 n1p0) := k7_3_1
      have yk7_3_2 : w7.drew.cell? ⟨w4.heap.size, 2, none⟩ = some (.slice (some ⟨g4_2, 0, none⟩) n2p0 n2p0) := k7_3_2
      have yk7_4_0 : w7.drew.cell? ⟨w5.heap.size, 0, none⟩ = some (.int .i64 a0p1) := k7_4_0
      have yk7_4_1 : w7.drew.cell? ⟨w5.heap.size, 1, none⟩ = some (.slice (some ⟨g5_1, 0, none⟩) n1p1 n1p1) := k7_4_1
      have yk7_4_2 : w7.drew.cell? ⟨w5.heap.size, 2, none⟩ = some (.slice (some ⟨g5_2, 0, none⟩) n2p1 n2p1) := k7_4_2
      have yk7_5_0 : w7.drew.cell? ⟨w6.heap.size, 0, none⟩ = some (.int .i64 a0q0) := k7_5_0
      have yk7_5_1 : w7.drew.cell? ⟨w6.heap.size, 1, none⟩ = some (.slice A6_1q0 k1q0 c6_1q0) := k7_5_1
      have yk7_5_2 : w7.drew.cell? ⟨w6.heap.size, 2, none⟩ = some (.slice A6_2q0 k2q0 c6_2q0) := k7_5_2
      have hBz := hB7.size
      go_region_held3 (fun w' => w'.cell? ⟨w.heap.size, 0, none⟩ = some (.int .i64 a0p0) ∧ w'.cell? ⟨w.heap.size, 1, none⟩ = some (.slice (A1p0) n1p0 c1p0) ∧ w'.cell? ⟨w.heap.size, 2, none⟩ = some (.slice (A2p0) n2p0 c2p0) ∧ w'.cell? ⟨w.heap.size + 1, 0, none⟩ = some (.int .i64 a0p1) ∧ w'.cell? ⟨w.heap.size + 1, 1, none⟩ = some (.slice (A1p1) n1p1 c1p1) ∧ w'.cell? ⟨w.heap.size + 1, 2, none⟩ = some (.slice (A2p1) n2p1 c2p1) ∧ w'.cell? ⟨bW3, 0, none⟩ = some (.int .i64 a0q0) ∧ w'.cell? ⟨bW3, 1, none⟩ = some (.slice AW1q0 k1q0 cW1q0) ∧ w'.cell? ⟨bW3, 2, none⟩ = some (.slice AW2q0 k2q0 cW2q0) ∧ w'.cell? ⟨w4.heap.size, 0, none⟩ = some (.int .i64 a0p0) ∧ w'.cell? ⟨w4.heap.size, 1, none⟩ = some (.slice (some ⟨g4_1, 0, none⟩) n1p0 n1p0) ∧ w'.cell? ⟨w4.heap.size, 2, none⟩ = some (.slice (some ⟨g4_2, 0, none⟩) n2p0 n2p0) ∧ w'.cell? ⟨w5.heap.size, 0, none⟩ = some (.int .i64 a0p1) ∧ w'.cell? ⟨w5.heap.size, 1, none⟩ = some (.slice (some ⟨g5_1, 0, none⟩) n1p1 n1p1) ∧ w'.cell? ⟨w5.heap.size, 2, none⟩ = some (.slice (some ⟨g5_2, 0, none⟩) n2p1 n2p1) ∧ w'.cell? ⟨w6.heap.size, 0, none⟩ = some (.int .i64 a0q0) ∧ w'.cell? ⟨w6.heap.size, 1, none⟩ = some (.slice A6_1q0 k1q0 c6_1q0) ∧ w'.cell? ⟨w6.heap.size, 2, none⟩ = some (.slice A6_2q0 k2q0 c6_2q0)) (first | (with_reducible exact ⟨yk7_0_0, yk7_0_1, yk7_0_2, yk7_1_0, yk7_1_1, yk7_1_2, yk7_2_0, yk7_2_1, yk7_2_2, yk7_3_0, yk7_3_1, yk7_3_2, yk7_4_0, yk7_4_1, yk7_4_2, yk7_5_0, yk7_5_1, yk7_5_2⟩) | (with_reducible exact ⟨k7_0_0, k7_0_1, k7_0_2, k7_1_0, k7_1_1, k7_1_2, k7_2_0, k7_2_1, k7_2_2, k7_3_0, k7_3_1, k7_3_2, k7_4_0, k7_4_1, k7_4_2, k7_5_0, k7_5_1, k7_5_2⟩) | (go_split_ands; with_reducible exact ⟨kcl hv0 (by with_reducible assumption), kcl hv0 (by with_reducible assumption), kcl hv0 (by with_reducible assumption), kcl hv0 (by with_reducible assumption), kcl hv0 (by with_reducible assumption), kcl hv0 (by with_reducible assumption), kcl hv0 (by with_reducible assumption), kcl hv0 (by with_reducible assumption), kcl hv0 (by with_reducible assumption), kcl hv0 (by with_reducible assumption), kcl hv0 (by with_reducible assumption), kcl hv0 (by with_reducible assumption), kcl hv0 (by with_reducible assumption), kcl hv0 (by with_reducible assumption), kcl hv0 (by with_reducible assumption), kcl hv0 (by with_reducible assumption), kcl hv0 (by with_reducible assumption), kcl hv0 (by with_reducible assumption)⟩) | (go_split_ands; with_reducible exact ⟨kcl hv1 (by with_reducible assumption), kcl hv1 (by with_reducible assumption), kcl hv1 (by with_reducible assumption), kcl hv1 (by with_reducible assumption), kcl hv1 (by with_reducible assumption), kcl hv1 (by with_reducible assumption), kcl hv1 (by with_reducible assumption), kcl hv1 (by with_reducible assumption), kcl hv1 (by with_reducible assumption), kcl hv1 (by with_reducible assumption), kcl hv1 (by with_reducible assumption), kcl hv1 (by with_reducible assumption), kcl hv1 (by with_reducible assumption), kcl hv1 (by with_reducible assumption), kcl hv1 (by with_reducible assumption), kcl hv1 (by with_reducible assumption), kcl hv1 (by with_reducible assumption), kcl hv1 (by with_reducible assumption)⟩)) (first | (go_at_call 41; ((with_reducible refine (toTableau (xs1 := xs1p0) (xs2 := xs2p0) ?_ ?_ HN1p0.out bn1p0 HN2p0.out bn2p0).mono ?_); (exact HAA1p0.out.mono (by (repeat' (first | (with_reducible exact Below.refl _ _) | (with_reducible assumption) | (with_reducible refine Below.alloc ?_ ?_ _) | (with_reducible refine Below.drew ?_) | (with_reducible refine bdN ?_ _) | (with_reducible refine Below.setCell ?_ ?_ _) | (with_reducible refine chn ?_ (by assumption) ?_) | omega | (simp; done) | (simp; omega))))); (exact HAA2p0.out.mono (by (repeat' (first | (with_reducible exact Below.refl _ _) | (with_reducible assumption) | (with_reducible refine Below.alloc ?_ ?_ _) | (with_reducible refine Below.drew ?_) | (with_reducible refine bdN ?_ _) | (with_reducible refine Below.setCell ?_ ?_ _) | (with_reducible refine chn ?_ (by assumption) ?_) | omega | (simp; done) | (simp; omega))))); rintro ee v0 ⟨g9_1, g9_2, rfl, hK9_1, hK9_2, hg9_1, hg9_2, hv0⟩; have hq0 := hv0.size; (try simp only [World.size_drew, World.size_alloc] at hq0))) | (go_at_call 43; ((with_reducible refine (eqTableau (xs1 := xs1p0) (xs2 := xs2p0) ?_ ?_ ?_ ?_ HN1p0.out bn1p0 HN2p0.out bn2p0).mono ?_); (exact HX07.out.rd.mono (by (repeat' (first | (with_reducible exact Below.refl _ _) | (with_reducible assumption) | (with_reducible refine Below.alloc ?_ ?_ _) | (with_reducible refine Below.drew ?_) | (with_reducible refine bdN ?_ _) | (with_reducible refine Below.setCell ?_ ?_ _) | (with_reducible refine chn ?_ (by assumption) ?_) | omega | (simp; done) | (simp; omega))))); (exact HX17.out.rd.mono (by (repeat' (first | (with_reducible exact Below.refl _ _) | (with_reducible assumption) | (with_reducible refine Below.alloc ?_ ?_ _) | (with_reducible refine Below.drew ?_) | (with_reducible refine bdN ?_ _) | (with_reducible refine Below.setCell ?_ ?_ _) | (with_reducible refine chn ?_ (by assumption) ?_) | omega | (simp; done) | (simp; omega))))); (exact hK9_1.rd.mono (by (repeat' (first | (with_reducible exact Below.refl _ _) | (with_reducible assumption) | (with_reducible refine Below.alloc ?_ ?_ _) | (with_reducible refine Below.drew ?_) | (with_reducible refine bdN ?_ _) | (with_reducible refine Below.setCell ?_ ?_ _) | (with_reducible refine chn ?_ (by assumption) ?_) | omega | (simp; done) | (simp; omega))))); (exact hK9_2.rd.mono (by (repeat' (first | (with_reducible exact Below.refl _ _) | (with_reducible assumption) | (with_reducible refine Below.alloc ?_ ?_ _) | (with_reducible refine Below.drew ?_) | (with_reducible refine bdN ?_ _) | (with_reducible refine Below.setCell ?_ ?_ _) | (with_reducible refine chn ?_ (by assumption) ?_) | omega | (simp; done) | (simp; omega))))); rintro ee v1 ⟨rfl, hv1⟩; have hq1 := hv1.size; (try simp only [World.size_drew, World.size_alloc] at hq1))))
      all_goals (go_wp2_with fail; go_meet)
      all_goals go_split_ands
      all_goals (refine ⟨rfl, (by with_reducible assumption), (by with_reducible assumption), (by with_reducible assumption), (by with_reducible assumption), (by with_reducible assumption), (by with_reducible assumption), (by with_reducible assumption), (by with_reducible assumption), (by with_reducible assumption), (by with_reducible assumption), (by with_reducible assumption), (by with_reducible assumption), (by with_reducible assumption), (by with_reducible assumption), (by with_reducible assumption), (by with_reducible assumption), (by with_reducible assumption), (by with_reducible assumption), (by exact HW1q07.out.mono (by (repeat' (first | (with_reducible exact Below.refl _ _) | (with_reducible assumption) | (with_reducible refine Below.alloc ?_ ?_ _) | (with_reducible refine Below.drew ?_) | (with_reducible refine bdN ?_ _) | (with_reducible refine Below.setCell ?_ ?_ _) | (with_reducible refine chn ?_ (by assumption) ?_) | omega | (simp; done) | (simp; omega))))), (by exact HW2q07.out.mono (by (repeat' (first | (with_reducible exact Below.refl _ _) | (with_reducible assumption) | (with_reducible refine Below.alloc ?_ ?_ _) | (with_reducible refine Below.drew ?_) | (with_reducible refine bdN ?_ _) | (with_reducible refine Below.setCell ?_ ?_ _) | (with_reducible refine chn ?_ (by assumption) ?_) | omega | (simp; done) | (simp; omega))))), (by exact HX07.out.mono (by (repeat' (first | (with_reducible exact Below.refl _ _) | (with_reducible assumption) | (with_reducible refine Below.alloc ?_ ?_ _) | (with_reducible refine Below.drew ?_) | (with_reducible refine bdN ?_ _) | (with_reducible refine Below.setCell ?_ ?_ _) | (with_reducible refine chn ?_ (by assumption) ?_) | omega | (simp; done) | (simp; omega))))), (by exact HX17.out.mono (by (repeat' (first | (with_reducible exact Below.refl _ _) | (with_reducible assumption) | (with_reducible refine Below.alloc ?_ ?_ _) | (with_reducible refine Below.drew ?_) | (with_reducible refine bdN ?_ _) | (with_reducible refine Below.setCell ?_ ?_ _) | (with_reducible refine chn ?_ (by assumption) ?_) | omega | (simp; done) | (simp; omega))))), (by exact HX27.out.mono (by (repeat' (first | (with_reducible exact Below.refl _ _) | (with_reducible assumption) | (with_reducible refine Below.alloc ?_ ?_ _) | (with_reducible refine Below.drew ?_) | (with_reducible refine bdN ?_ _) | (with_reducible refine Below.setCell ?_ ?_ _) | (with_reducible refine chn ?_ (by assumption) ?_) | omega | (simp; done) | (simp; omega))))), (by exact HX37.out.mono (by (repeat' (first | (with_reducible exact Below.refl _ _) | (with_reducible assumption) | (with_reducible refine Below.alloc ?_ ?_ _) | (with_reducible refine Below.drew ?_) | (with_reducible refine bdN ?_ _) | (with_reducible refine Below.setCell ?_ ?_ _) | (with_reducible refine chn ?_ (by assumption) ?_) | omega | (simp; done) | (simp; omega))))), (by exact HG1q07.out.mono (by (repeat' (first | (with_reducible exact Below.refl _ _) | (with_reducible assumption) | (with_reducible refine Below.alloc ?_ ?_ _) | (with_reducible refine Below.drew ?_) | (with_reducible refine bdN ?_ _) | (with_reducible refine Below.setCell ?_ ?_ _) | (with_reducible refine chn ?_ (by assumption) ?_) | omega | (simp; done) | (simp; omega))))), (by exact HG2q07.out.mono (by (repeat' (first | (with_reducible exact Below.refl _ _) | (with_reducible assumption) | (with_reducible refine Below.alloc ?_ ?_ _) | (with_reducible refine Below.drew ?_) | (with_reducible refine bdN ?_ _) | (with_reducible refine Below.setCell ?_ ?_ _) | (with_reducible refine chn ?_ (by assumption) ?_) | omega | (simp; done) | (simp; omega))))), (by (try simp only [World.size_alloc, World.size_drew, World.size_setCell]); omega), (by (repeat' (first | (with_reducible exact Below.refl _ _) | (with_reducible assumption) | (with_reducible refine Below.alloc ?_ ?_ _) | (with_reducible refine Below.drew ?_) | (with_reducible refine bdN ?_ _) | (with_reducible refine Below.setCell ?_ ?_ _) | (with_reducible refine chn ?_ (by assumption) ?_) | omega | (simp; done) | (simp; omega))))⟩)
    case rest =>
      obtain ⟨w8, rfl⟩ : ∃ w8, w8 = wc := ⟨_, rfl⟩
      clear k7_0_0 k7_0_1 k7_0_2 k7_1_0 k7_1_1 k7_1_2 k7_2_0 k7_2_1 k7_2_2 k7_3_0 k7_3_1 k7_3_2 k7_4_0 k7_4_1 k7_4_2 k7_5_0 k7_5_1 k7_5_2 HW1q07 HW2q07 HX07 HX17 HX27 HX37 HG1q07 HG2q07
      obtain ⟨rfl, k8_0_0, k8_0_1, k8_0_2, k8_1_0, k8_1_1, k8_1_2, k8_2_0, k8_2_1, k8_2_2, k8_3_0, k8_3_1, k8_3_2, k8_4_0, k8_4_1, k8_4_2, k8_5_0, k8_5_1, k8_5_2, HW1q08, HW2q08, HX08, HX18, HX28, HX38, HG1q08, HG2q08, hz8, hB8⟩ := hcut
      have bl8_0 : w.heap.size < w8.heap.size := World.block_lt_of_cell? _ _ k8_0_0
      have bl8_1 : w.heap.size + 1 < w8.heap.size := World.block_lt_of_cell? _ _ k8_1_0
      have bl8_2 : bW3 < w8.heap.size := World.block_lt_of_cell? _ _ k8_2_0
      have bl8_3 : w4.heap.size < w8.heap.size := World.block_lt_of_cell? _ _ k8_3_0
      have bl8_4 : w5.heap.size < w8.heap.size := World.block_lt_of_cell? _ _ k8_4_0
      have bl8_5 : w6.heap.size < w8.heap.size := World.block_lt_of_cell? _ _ k8_5_0
      go_wp2_with (fail)
      go_cut [63] (fun s63 wx => (s63 = .bool false) ∧ (wx.cell? ⟨w.heap.size, 0, none⟩ = some (.int .i64 a0p0) ∧ wx.cell? ⟨w.heap.size, 1, none⟩ = some (.slice (A1p0) n1p0 c1p0) ∧ wx.cell? ⟨w.heap.size, 2, none⟩ = some (.slice (A2p0) n2p0 c2p0) ∧ wx.cell? ⟨w.heap.size + 1, 0, none⟩ = some (.int .i64 a0p1) ∧ wx.cell? ⟨w.heap.size + 1, 1, none⟩ = some (.slice (A1p1) n1p1 c1p1) ∧ wx.cell? ⟨w.heap.size + 1, 2, none⟩ = some (.slice (A2p1) n2p1 c2p1) ∧ wx.cell? ⟨bW3, 0, none⟩ = some (.int .i64 a0q0) ∧ wx.cell? ⟨bW3, 1, none⟩ = some (.slice AW1q0 k1q0 cW1q0) ∧ wx.cell? ⟨bW3, 2, none⟩ = some (.slice AW2q0 k2q0 cW2q0) ∧ wx.cell? ⟨w4.heap.size, 0, none⟩ = some (.int .i64 a0p0) ∧ wx.cell? ⟨w4.heap.size, 1, none⟩ = some (.slice (some ⟨g4_1, 0, none⟩) n1p0 n1p0) ∧ wx.cell? ⟨w4.heap.size, 2, none⟩ = some (.slice (some ⟨g4_2, 0, none⟩) n2p0 n2p0) ∧ wx.cell? ⟨w5.heap.size, 0, none⟩ = some (.int .i64 a0p1) ∧ wx.cell? ⟨w5.heap.size, 1, none⟩ = some (.slice (some ⟨g5_1, 0, none⟩) n1p1 n1p1) ∧ wx.cell? ⟨w5.heap.size, 2, none⟩ = some (.slice (some ⟨g5_2, 0, none⟩) n2p1 n2p1) ∧ wx.cell? ⟨w6.heap.size, 0, none⟩ = some (.int .i64 a0q0) ∧ wx.cell? ⟨w6.heap.size, 1, none⟩ = some (.slice A6_1q0 k1q0 c6_1q0) ∧ wx.cell? ⟨w6.heap.size, 2, none⟩ = some (.slice A6_2q0 k2q0 c6_2q0) ∧ Hid (RdB pauliE wx w3.heap.size AW1q0 zs1q0) ∧ Hid (RdB pauliE wx w3.heap.size AW2q0 zs2q0) ∧ Hid (Ow pauliE wx (w3.heap.size) 45 (some ⟨g4_1, 0, none⟩) xs1p0) ∧ Hid (Ow pauliE wx (g4_1 + 1) 45 (some ⟨g4_2, 0, none⟩) xs2p0) ∧ Hid (Ow pauliE wx (w4.heap.size + 1) 45 (some ⟨g5_1, 0, none⟩) xs1p1) ∧ Hid (Ow pauliE wx (g5_1 + 1) 45 (some ⟨g5_2, 0, none⟩) xs2p1) ∧ Hid (Ow pauliE wx (w5.heap.size + 1) 45 A6_1q0 zs1q0) ∧ Hid (Ow pauliE wx (w5.heap.size + 1) 45 A6_2q0 zs2q0) ∧ w8.heap.size ≤ wx.heap.size ∧ Below w.heap.size w wx))
      case first =>
        have yk8_0_0 : w8.drew.cell? ⟨w.heap.size, 0, none⟩ = some (.int .i64 a0p0) := k8_0_0
        have yk8_0_1 : w8.drew.cell? ⟨w.heap.size, 1, none⟩ = some (.slice (A1p0) n1p0 c1p0) := k8_0_1
        have yk8_0_2 : w8.drew.cell? ⟨w.heap.size, 2, none⟩ = some (.slice (A2p0) n2p0 c2p0) := k8_0_2
        have yk8_1_0 : w8.drew.cell? ⟨w.heap.size + 1, 0, none⟩ = some (.int .i64 a0p1) := k8_1_0
        have yk8_1_1 : w8.drew.cell? ⟨w.heap.size + 1, 1, none⟩ = some (.slice (A1p1) n1p1 c1p1) := k8_1_1
        have yk8_1_2 : w8.drew.cell? ⟨w.heap.size + 1, 2, none⟩ = some (.slice (A2p1) n2p1 c2p1) := k8_1_2
        have yk8_2_0 : w8.drew.cell? ⟨bW3, 0, none⟩ = some (.int .i64 a0q0) := k8_2_0
        have yk8_2_1 : w8.drew.cell? ⟨bW3, 1, none⟩ = some (.slice AW1q0 k1q0 cW1q0) := k8_2_1
        have yk8_2_2 : w8.drew.cell? ⟨bW3, 2, none⟩ = some (.slice AW2q0 k2q0 cW2q0) := k8_2_2
        have yk8_3_0 : w8.drew.cell? ⟨w4.heap.size, 0, none⟩ = some (.int .i64 a0p0) := k8_3_0
        have yk8_3_1 : w8.drew.cell? ⟨w4.heap.size, 1, none⟩ = some (.slice (some ⟨g4_1, 0, none⟩) n1p0 n1p0) := k8_3_1
        have yk8_3_2 : w8.drew.cell? ⟨w4.heap.size, 2, none⟩ = some (.slice (some ⟨g4_2, 0, none⟩) n2p0 n2p0) := k8_3_2
        have yk8_4_0 : w8.drew.cell? ⟨w5.heap.size, 0, none⟩ = some (.int .i64 a0p1) := k8_4_0
        have yk8_4_1 : w8.drew.cell? ⟨w5.heap.size, 1, none⟩ = some (.slice (some ⟨g5_1, 0, none⟩) n1p1 n1p1) := k8_4_1
        have yk8_4_2 : w8.drew.cell? ⟨w5.heap.size, 2, none⟩ = some (.slice (some ⟨g5_2, 0, none⟩) n2p1 n2p1) := k8_4_2
        have yk8_5_0 : w8.drew.cell? ⟨w6.heap.size, 0, none⟩ = some (.int .i64 a0q0) := k8_5_0
        have yk8_5_1 : w8.drew.cell? ⟨w6.heap.size, 1, none⟩ = some (.slice A6_1q0 k1q0 c6_1q0) := k8_5_1
        have yk8_5_2 : w8.drew.cell? ⟨w6.heap.size, 2, none⟩ = some (.slice A6_2q0 k2q0 c6_2q0) := k8_5_2
        have hBz := hB8.size
        go_region_held3 (fun w' => w'.cell? ⟨w.heap.size, 0, none⟩ = some (.int .i64 a0p0) ∧ w'.cell? ⟨w.heap.size, 1, none⟩ = some (.slice (A1p0) n1p0 c1p0) ∧ w'.cell? ⟨w.heap.size, 2, none⟩ = some (.slice (A2p0) n2p0 c2p0) ∧ w'.cell? ⟨w.heap.size + 1, 0, none⟩ = some (.int .i64 a0p1) ∧ w'.cell? ⟨w.heap.size + 1, 1, none⟩ = some (.slice (A1p1) n1p1 c1p1) ∧ w'.cell? ⟨w.heap.size + 1, 2, none⟩ = some (.slice (A2p1) n2p1 c2p1) ∧ w'.cell? ⟨bW3, 0, none⟩ = some (.int .i64 a0q0) ∧ w'.cell? ⟨bW3, 1, none⟩ = some (.slice AW1q0 k1q0 cW1q0) ∧ w'.cell? ⟨bW3, 2, none⟩ = some (.slice AW2q0 k2q0 cW2q0) ∧ w'.cell? ⟨w4.heap.size, 0, none⟩ = some (.int .i64 a0p0) ∧ w'.cell? ⟨w4.heap.size, 1, none⟩ = some (.slice (some ⟨g4_1, 0, none⟩) n1p0 n1p0) ∧ w'.cell? ⟨w4.heap.size, 2, none⟩ = some (.slice (some ⟨g4_2, 0, none⟩) n2p0 n2p0) ∧ w'.cell? ⟨w5.heap.size, 0, none⟩ = some (.int .i64 a0p1) ∧ w'.cell? ⟨w5.heap.size, 1, none⟩ = some (.slice (some ⟨g5_1, 0, none⟩) n1p1 n1p1) ∧ w'.cell? ⟨w5.heap.size, 2, none⟩ = some (.slice (some ⟨g5_2, 0, none⟩) n2p1 n2p1) ∧ w'.cell? ⟨w6.heap.size, 0, none⟩ = some (.int .i64 a0q0) ∧ w'.cell? ⟨w6.heap.size, 1, none⟩ = some (.slice A6_1q0 k1q0 c6_1q0) ∧ w'.cell? ⟨w6.heap.size, 2, none⟩ = some (.slice A6_2q0 k2q0 c6_2q0)) (first | (with_reducible exact ⟨yk8_0_0, yk8_0_1, yk8_0_2, yk8_1_0, yk8_1_1, yk8_1_2, yk8_2_0, yk8_2_1, yk8_2_2, yk8_3_0, yk8_3_1, yk8_3_2, yk8_4_0, yk8_4_1, yk8_4_2, yk8_5_0, yk8_5_1, yk8_5_2⟩) | (with_reducible exact ⟨k8_0_0, k8_0_1, k8_0_2, k8_1_0, k8_1_1, k8_1_2, k8_2_0, k8_2_1, k8_2_2, k8_3_0, k8_3_1, k8_3_2, k8_4_0, k8_4_1, k8_4_2, k8_5_0, k8_5_1, k8_5_2⟩) | (go_split_ands; with_reducible exact ⟨kcl hv0 (by with_reducible assumption), kcl hv0 (by with_reducible assumption), kcl hv0 (by with_reducible assumption), kcl hv0 (by with_reducible assumption), kcl hv0 (by with_reducible assumption), kcl hv0 (by with_reducible assumption), kcl hv0 (by with_reducible assumption), kcl hv0 (by with_reducible assumption), kcl hv0 (by with_reducible assumption), kcl hv0 (by with_reducible assumption), kcl hv0 (by with_reducible assumption), kcl hv0 (by with_reducible assumption), kcl hv0 (by with_reducible assumption), kcl hv0 (by with_reducible assumption), kcl hv0 (by with_reducible assumption), kcl hv0 (by with_reducible assumption), kcl hv0 (by with_reducible assumption), kcl hv0 (by with_reducible assumption)⟩) | (go_split_ands; with_reducible exact ⟨kcl hv1 (by with_reducible assumption), kcl hv1 (by with_reducible assumption), kcl hv1 (by with_reducible assumption), kcl hv1 (by with_reducible assumption), kcl hv1 (by with_reducible assumption), kcl hv1 (by with_reducible assumption), kcl hv1 (by with_reducible assumption), kcl hv1 (by with_reducible assumption), kcl hv1 (by with_reducible assumption), kcl hv1 (by with_reducible assumption), kcl hv1 (by with_reducible assumption), kcl hv1 (by with_reducible assumption), kcl hv1 (by with_reducible assumption), kcl hv1 (by with_reducible assumption), kcl hv1 (by with_reducible assumption), kcl hv1 (by with_reducible assumption), kcl hv1 (by with_reducible assumption), kcl hv1 (by with_reducible assumption)⟩)) (first | (go_at_call 41; ((with_reducible refine (toTableau (xs1 := xs1p1) (xs2 := xs2p1) ?_ ?_ HN1p1.out bn1p1 HN2p1.out bn2p1).mono ?_); (exact HAA1p1.out.mono (by (repeat' (first | (with_reducible exact Below.refl _ _) | (with_reducible assumption) | (with_reducible refine Below.alloc ?_ ?_ _) | (with_reducible refine Below.drew ?_) | (with_reducible refine bdN ?_ _) | (with_reducible refine Below.setCell ?_ ?_ _) | (with_reducible refine chn ?_ (by assumption) ?_) | omega | (simp; done) | (simp; omega))))); (exact HAA2p1.out.mono (by (repeat' (first | (with_reducible exact Below.refl _ _) | (with_reducible assumption) | (with_reducible refine Below.alloc ?_ ?_ _) | (with_reducible refine Below.drew ?_) | (with_reducible refine bdN ?_ _) | (with_reducible refine Below.setCell ?_ ?_ _) | (with_reducible refine chn ?_ (by assumption) ?_) | omega | (simp; done) | (simp; omega))))); rintro ee v0 ⟨g9_1, g9_2, rfl, hK9_1, hK9_2, hg9_1, hg9_2, hv0⟩; have hq0 := hv0.size; (try simp only [World.size_drew, World.size_alloc] at hq0))) | (go_at_call 43; ((with_reducible refine (eqTableau (xs1 := xs1p1) (xs2 := xs2p1) ?_ ?_ ?_ ?_ HN1p1.out bn1p1 HN2p1.out bn2p1).mono ?_); (exact HX28.out.rd.mono (by (repeat' (first | (with_reducible exact Below.refl _ _) | (with_reducible assumption) | (with_reducible refine Below.alloc ?_ ?_ _) | (with_reducible refine Below.drew ?_) | (with_reducible refine bdN ?_ _) | (with_reducible refine Below.setCell ?_ ?_ _) | (with_reducible refine chn ?_ (by assumption) ?_) | omega | (simp; done) | (simp; omega))))); (exact HX38.out.rd.mono (by (repeat' (first | (with_reducible exact Below.refl _ _) | (with_reducible assumption) | (with_reducible refine Below.alloc ?_ ?_ _) | (with_reducible refine Below.drew ?_) | (with_reducible refine bdN ?_ _) | (with_reducible refine Below.setCell ?_ ?_ _) | (with_reducible refine chn ?_ (by assumption) ?_) | omega | (simp; done) | (simp; omega))))); (exact hK9_1.rd.mono (by (repeat' (first | (with_reducible exact Below.refl _ _) | (with_reducible assumption) | (with_reducible refine Below.alloc ?_ ?_ _) | (with_reducible refine Below.drew ?_) | (with_reducible refine bdN ?_ _) | (with_reducible refine Below.setCell ?_ ?_ _) | (with_reducible refine chn ?_ (by assumption) ?_) | omega | (simp; done) | (simp; omega))))); (exact hK9_2.rd.mono (by (repeat' (first | (with_reducible exact Below.refl _ _) | (with_reducible assumption) | (with_reducible refine Below.alloc ?_ ?_ _) | (with_reducible refine Below.drew ?_) | (with_reducible refine bdN ?_ _) | (with_reducible refine Below.setCell ?_ ?_ _) | (with_reducible refine chn ?_ (by assumption) ?_) | omega | (simp; done) | (simp; omega))))); rintro ee v1 ⟨rfl, hv1⟩; have hq1 := hv1.size; (try simp only [World.size_drew, World.size_alloc] at hq1))))
        all_goals (go_wp2_with fail; go_meet)
        all_goals go_split_ands
        all_goals (refine ⟨rfl, (by with_reducible assumption), (by with_reducible assumption), (by with_reducible assumption), (by with_reducible assumption), (by with_reducible assumption), (by with_reducible assumption), (by with_reducible assumption), (by with_reducible assumption), (by with_reducible assumption), (by with_reducible assumption), (by with_reducible assumption), (by with_reducible assumption), (by with_reducible assumption), (by with_reducible assumption), (by with_reducible assumption), (by with_reducible assumption), (by with_reducible assumption), (by with_reducible assumption), (by exact HW1q08.out.mono (by (repeat' (first | (with_reducible exact Below.refl _ _) | (with_reducible assumption) | (with_reducible refine Below.alloc ?_ ?_ _) | (with_reducible refine Below.drew ?_) | (with_reducible refine bdN ?_ _) | (with_reducible refine Below.setCell ?_ ?_ _) | (with_reducible refine chn ?_ (by assumption) ?_) | omega | (simp; done) | (simp; omega))))), (by exact HW2q08.out.mono (by (repeat' (first | (with_reducible exact Below.refl _ _) | (with_reducible assumption) | (with_reducible refine Below.alloc ?_ ?_ _) | (with_reducible refine Below.drew ?_) | (with_reducible refine bdN ?_ _) | (with_reducible refine Below.setCell ?_ ?_ _) | (with_reducible refine chn ?_ (by assumption) ?_) | omega | (simp; done) | (simp; omega))))), (by exact HX08.out.mono (by (repeat' (first | (with_reducible exact Below.refl _ _) | (with_reducible assumption) | (with_reducible refine Below.alloc ?_ ?_ _) | (with_reducible refine Below.drew ?_) | (with_reducible refine bdN ?_ _) | (with_reducible refine Below.setCell ?_ ?_ _) | (with_reducible refine chn ?_ (by assumption) ?_) | omega | (simp; done) | (simp; omega))))), (by exact HX18.out.mono (by (repeat' (first | (with_reducible exact Below.refl _ _) | (with_reducible assumption) | (with_reducible refine Below.alloc ?_ ?_ _) | (with_reducible refine Below.drew ?_) | (with_reducible refine bdN ?_ _) | (with_reducible refine Below.setCell ?_ ?_ _) | (with_reducible refine chn ?_ (by assumption) ?_) | omega | (simp; done) | (simp; omega))))), (by exact HX28.out.mono (by (repeat' (first | (with_reducible exact Below.refl _ _) | (with_reducible assumption) | (with_reducible refine Below.alloc ?_ ?_ _) | (with_reducible refine Below.drew ?_) | (with_reducible refine bdN ?_ _) | (with_reducible refine Below.setCell ?_ ?_ _) | (with_reducible refine chn ?_ (by assumption) ?_) | omega | (simp; done) | (simp; omega))))), (by exact HX38.out.mono (by (repeat' (first | (with_reducible exact Below.refl _ _) | (with_reducible assumption) | (with_reducible refine Below.alloc ?_ ?_ _) | (with_reducible refine Below.drew ?_) | (with_reducible refine bdN ?_ _) | (with_reducible refine Below.setCell ?_ ?_ _) | (with_reducible refine chn ?_ (by assumption) ?_) | omega | (simp; done) | (simp; omega))))), (by exact HG1q08.out.mono (by (repeat' (first | (with_reducible exact Below.refl _ _) | (with_reducible assumption) | (with_reducible refine Below.alloc ?_ ?_ _) | (with_reducible refine Below.drew ?_) | (with_reducible refine bdN ?_ _) | (with_reducible refine Below.setCell ?_ ?_ _) | (with_reducible refine chn ?_ (by assumption) ?_) | omega | (simp; done) | (simp; omega))))), (by exact HG2q08.out.mono (by (repeat' (first | (with_reducible exact Below.refl _ _) | (with_reducible assumption) | (with_reducible refine Below.alloc ?_ ?_ _) | (with_reducible refine Below.drew ?_) | (with_reducible refine bdN ?_ _) | (with_reducible refine Below.setCell ?_ ?_ _) | (with_reducible refine chn ?_ (by assumption) ?_) | omega | (simp; done) | (simp; omega))))), (by (try simp only [World.size_alloc, World.size_drew, World.size_setCell]); omega), (by (repeat' (first | (with_reducible exact Below.refl _ _) | (with_reducible assumption) | (with_reducible refine Below.alloc ?_ ?_ _) | (with_reducible refine Below.drew ?_) | (with_reducible refine bdN ?_ _) | (with_reducible refine Below.setCell ?_ ?_ _) | (with_reducible refine chn ?_ (by assumption) ?_) | omega | (simp; done) | (simp; omega))))⟩)
      case rest =>
        obtain ⟨w9, rfl⟩ : ∃ w9, w9 = wc := ⟨_, rfl⟩
        clear k8_0_0 k8_0_1 k8_0_2 k8_1_0 k8_1_1 k8_1_2 k8_2_0 k8_2_1 k8_2_2 k8_3_0 k8_3_1 k8_3_2 k8_4_0 k8_4_1 k8_4_2 k8_5_0 k8_5_1 k8_5_2 HW1q08 HW2q08 HX08 HX18 HX28 HX38 HG1q08 HG2q08
        obtain ⟨rfl, k9_0_0, k9_0_1, k9_0_2, k9_1_0, k9_1_1, k9_1_2, k9_2_0, k9_2_1, k9_2_2, k9_3_0, k9_3_1, k9_3_2, k9_4_0, k9_4_1, k9_4_2, k9_5_0, k9_5_1, k9_5_2, HW1q09, HW2q09, HX09, HX19, HX29, HX39, HG1q09, HG2q09, hz9, hB9⟩ := hcut
        have bl9_0 : w.heap.size < w9.heap.size := World.block_lt_of_cell? _ _ k9_0_0
        have bl9_1 : w.heap.size + 1 < w9.heap.size := World.block_lt_of_cell? _ _ k9_1_0
        have bl9_2 : bW3 < w9.heap.size := World.block_lt_of_cell? _ _ k9_2_0
        have bl9_3 : w4.heap.size < w9.heap.size := World.block_lt_of_cell? _ _ k9_3_0
        have bl9_4 : w5.heap.size < w9.heap.size := World.block_lt_of_cell? _ _ k9_4_0
        have bl9_5 : w6.heap.size < w9.heap.size := World.block_lt_of_cell? _ _ k9_5_0
        go_wp2_with (fail)
        refine (markTableau (B1 := w3.heap.size) (B2 := g4_1 + 1) ?_ ?_ hne_X0 HN1p0.out bn1p0 HN2p0.out bn2p0 (by omega) (by omega)).mono ?_
        · exact HX09.out
        · exact HX19.out
        rintro ee w10 ⟨rfl, hOa10, hOb10, wm10, hGa10, hGb10⟩
        have hzm10 := hGa10.size
        have hzn10 := hGb10.size
        have hz10 : w9.heap.size ≤ w10.heap.size := Nat.le_trans hzm10 hzn10
        have hM10 := Below.grown hB9 hGa10 hB9.size (fun r hr => by have := hr_X0 r hr; omega)
        have hB10 : Below w.heap.size w w10 := Below.grown hM10 hGb10 hM10.size (fun r hr => by have := hr_X1 r hr; omega)
        have k10_0_0 : w10.cell? ⟨w.heap.size, 0, none⟩ = some (.int .i64 a0p0) := hGb10.cell (hGa10.cell k9_0_0 (fun e => by have := hr_X0 (w.heap.size) e.symm; omega)) (fun e => by have := hr_X1 (w.heap.size) e.symm; omega)
        have k10_0_1 : w10.cell? ⟨w.heap.size, 1, none⟩ = some (.slice (A1p0) n1p0 c1p0) := hGb10.cell (hGa10.cell k9_0_1 (fun e => by have := hr_X0 (w.heap.size) e.symm; omega)) (fun e => by have := hr_X1 (w.heap.size) e.symm; omega)
        have k10_0_2 : w10.cell? ⟨w.heap.size, 2, none⟩ = some (.slice (A2p0) n2p0 c2p0) := hGb10.cell (hGa10.cell k9_0_2 (fun e => by have := hr_X0 (w.heap.size) e.symm; omega)) (fun e => by have := hr_X1 (w.heap.size) e.symm; omega)
        have k10_1_0 : w10.cell? ⟨w.heap.size + 1, 0, none⟩ = some (.int .i64 a0p1) := hGb10.cell (hGa10.cell k9_1_0 (fun e => by have := hr_X0 (w.heap.size + 1) e.symm; omega)) (fun e => by have := hr_X1 (w.heap.size + 1) e.symm; omega)
        have k10_1_1 : w10.cell? ⟨w.heap.size + 1, 1, none⟩ = some (.slice (A1p1) n1p1 c1p1) := hGb10.cell (hGa10.cell k9_1_1 (fun e => by have := hr_X0 (w.heap.size + 1) e.symm; omega)) (fun e => by have := hr_X1 (w.heap.size + 1) e.symm; omega)
        have k10_1_2 : w10.cell? ⟨w.heap.size + 1, 2, none⟩ = some (.slice (A2p1) n2p1 c2p1) := hGb10.cell (hGa10.cell k9_1_2 (fun e => by have := hr_X0 (w.heap.size + 1) e.symm; omega)) (fun e => by have := hr_X1 (w.heap.size + 1) e.symm; omega)
        have k10_2_0 : w10.cell? ⟨bW3, 0, none⟩ = some (.int .i64 a0q0) := hGb10.cell (hGa10.cell k9_2_0 (fun e => by have := hr_X0 (bW3) e.symm; omega)) (fun e => by have := hr_X1 (bW3) e.symm; omega)
        have k10_2_1 : w10.cell? ⟨bW3, 1, none⟩ = some (.slice AW1q0 k1q0 cW1q0) := hGb10.cell (hGa10.cell k9_2_1 (fun e => by have := hr_X0 (bW3) e.symm; omega)) (fun e => by have := hr_X1 (bW3) e.symm; omega)
        have k10_2_2 : w10.cell? ⟨bW3, 2, none⟩ = some (.slice AW2q0 k2q0 cW2q0) := hGb10.cell (hGa10.cell k9_2_2 (fun e => by have := hr_X0 (bW3) e.symm; omega)) (fun e => by have := hr_X1 (bW3) e.symm; omega)
        have k10_3_0 : w10.cell? ⟨w4.heap.size, 0, none⟩ = some (.int .i64 a0p0) := hGb10.cell (hGa10.cell k9_3_0 (fun e => by have := hr_X0 (w4.heap.size) e.symm; omega)) (fun e => by have := hr_X1 (w4.heap.size) e.symm; omega)
        have k10_3_1 : w10.cell? ⟨w4.heap.size, 1, none⟩ = some (.slice (some ⟨g4_1, 0, none⟩) n1p0 n1p0) := hGb10.cell (hGa10.cell k9_3_1 (fun e => by have := hr_X0 (w4.heap.size) e.symm; omega)) (fun e => by have := hr_X1 (w4.heap.size) e.symm; omega)
        have k10_3_2 : w10.cell? ⟨w4.heap.size, 2, none⟩ = some (.slice (some ⟨g4_2, 0, none⟩) n2p0 n2p0) := hGb10.cell (hGa10.cell k9_3_2 (fun e => by have := hr_X0 (w4.heap.size) e.symm; omega)) (fun e => by have := hr_X1 (w4.heap.size) e.symm; omega)
        have k10_4_0 : w10.cell? ⟨w5.heap.size, 0, none⟩ = some (.int .i64 a0p1) := hGb10.cell (hGa10.cell k9_4_0 (fun e => by have := hr_X0 (w5.heap.size) e.symm; omega)) (fun e => by have := hr_X1 (w5.heap.size) e.symm; omega)
        have k10_4_1 : w10.cell? ⟨w5.heap.size, 1, none⟩ = some (.slice (some ⟨g5_1, 0, none⟩) n1p1 n1p1) := hGb10.cell (hGa10.cell k9_4_1 (fun e => by have := hr_X0 (w5.heap.size) e.symm; omega)) (fun e => by have := hr_X1 (w5.heap.size) e.symm; omega)
        have k10_4_2 : w10.cell? ⟨w5.heap.size, 2, none⟩ = some (.slice (some ⟨g5_2, 0, none⟩) n2p1 n2p1) := hGb10.cell (hGa10.cell k9_4_2 (fun e => by have := hr_X0 (w5.heap.size) e.symm; omega)) (fun e => by have := hr_X1 (w5.heap.size) e.symm; omega)
        have k10_5_0 : w10.cell? ⟨w6.heap.size, 0, none⟩ = some (.int .i64 a0q0) := hGb10.cell (hGa10.cell k9_5_0 (fun e => by have := hr_X0 (w6.heap.size) e.symm; omega)) (fun e => by have := hr_X1 (w6.heap.size) e.symm; omega)
        have k10_5_1 : w10.cell? ⟨w6.heap.size, 1, none⟩ = some (.slice A6_1q0 k1q0 c6_1q0) := hGb10.cell (hGa10.cell k9_5_1 (fun e => by have := hr_X0 (w6.heap.size) e.symm; omega)) (fun e => by have := hr_X1 (w6.heap.size) e.symm; omega)
        have k10_5_2 : w10.cell? ⟨w6.heap.size, 2, none⟩ = some (.slice A6_2q0 k2q0 c6_2q0) := hGb10.cell (hGa10.cell k9_5_2 (fun e => by have := hr_X0 (w6.heap.size) e.symm; omega)) (fun e => by have := hr_X1 (w6.heap.size) e.symm; omega)
        have HW1q010 := lay ((HW1q09.out.grown hGa10 (fun r hr => by have := hr_X0 r hr; omega)).grown hGb10 (fun r hr => by have := hr_X1 r hr; omega))
        have HW2q010 := lay ((HW2q09.out.grown hGa10 (fun r hr => by have := hr_X0 r hr; omega)).grown hGb10 (fun r hr => by have := hr_X1 r hr; omega))
        have HX210 := lay ((HX29.out.grown hGa10 (fun r hr => by have := hr_X0 r hr; omega)).grown hGb10 (fun r hr => by have := hr_X1 r hr; omega))
        have HX310 := lay ((HX39.out.grown hGa10 (fun r hr => by have := hr_X0 r hr; omega)).grown hGb10 (fun r hr => by have := hr_X1 r hr; omega))
        have HG1q010 := lay ((HG1q09.out.grown hGa10 (fun r hr => by have := hr_X0 r hr; omega)).grown hGb10 (fun r hr => by have := hr_X1 r hr; omega))
        have HG2q010 := lay ((HG2q09.out.grown hGa10 (fun r hr => by have := hr_X0 r hr; omega)).grown hGb10 (fun r hr => by have := hr_X1 r hr; omega))
        have bl10_0 : w.heap.size < w10.heap.size := World.block_lt_of_cell? _ _ k10_0_0
        have bl10_1 : w.heap.size + 1 < w10.heap.size := World.block_lt_of_cell? _ _ k10_1_0
        have bl10_2 : bW3 < w10.heap.size := World.block_lt_of_cell? _ _ k10_2_0
        have bl10_3 : w4.heap.size < w10.heap.size := World.block_lt_of_cell? _ _ k10_3_0
        have bl10_4 : w5.heap.size < w10.heap.size := World.block_lt_of_cell? _ _ k10_4_0
        have bl10_5 : w6.heap.size < w10.heap.size := World.block_lt_of_cell? _ _ k10_5_0
        have HX010 := lay hOa10
        have HX110 := lay hOb10
        clear hOa10 hOb10 hGa10 hGb10 hM10
        clear k9_0_0 k9_0_1 k9_0_2 k9_1_0 k9_1_1 k9_1_2 k9_2_0 k9_2_1 k9_2_2 k9_3_0 k9_3_1 k9_3_2 k9_4_0 k9_4_1 k9_4_2 k9_5_0 k9_5_1 k9_5_2 HW1q09 HW2q09 HX29 HX39 HG1q09 HG2q09 HX09 HX19
        clear HX010
        clear HX110
        go_wp2_with (fail)
        refine (markTableau (B1 := w4.heap.size + 1) (B2 := g5_1 + 1) ?_ ?_ hne_X2 HN1p1.out bn1p1 HN2p1.out bn2p1 (by omega) (by omega)).mono ?_
        · exact HX210.out
        · exact HX310.out
        rintro ee w11 ⟨rfl, hOa11, hOb11, wm11, hGa11, hGb11⟩
        have hzm11 := hGa11.size
        have hzn11 := hGb11.size
        have hz11 : w10.heap.size ≤ w11.heap.size := Nat.le_trans hzm11 hzn11
        have hM11 := Below.grown hB10 hGa11 hB10.size (fun r hr => by have := hr_X2 r hr; omega)
        have hB11 : Below w.heap.size w w11 := Below.grown hM11 hGb11 hM11.size (fun r hr => by have := hr_X3 r hr; omega)
        have k11_0_0 : w11.cell? ⟨w.heap.size, 0, none⟩ = some (.int .i64 a0p0) := hGb11.cell (hGa11.cell k10_0_0 (fun e => by have := hr_X2 (w.heap.size) e.symm; omega)) (fun e => by have := hr_X3 (w.heap.size) e.symm; omega)
        have k11_0_1 : w11.cell? ⟨w.heap.size, 1, none⟩ = some (.slice (A1p0) n1p0 c1p0) := hGb11.cell (hGa11.cell k10_0_1 (fun e => by have := hr_X2 (w.heap.size) e.symm; omega)) (fun e => by have := hr_X3 (w.heap.size) e.symm; omega)
        have k11_0_2 : w11.cell? ⟨w.heap.size, 2, none⟩ = some (.slice (A2p0) n2p0 c2p0) := hGb11.cell (hGa11.cell k10_0_2 (fun e => by have := hr_X2 (w.heap.size) e.symm; omega)) (fun e => by have := hr_X3 (w.heap.size) e.symm; omega)
        have k11_1_0 : w11.cell? ⟨w.heap.size + 1, 0, none⟩ = some (.int .i64 a0p1) := hGb11.cell (hGa11.cell k10_1_0 (fun e => by have := hr_X2 (w.heap.size + 1) e.symm; omega)) (fun e => by have := hr_X3 (w.heap.size + 1) e.symm; omega)
        have k11_1_1 : w11.cell? ⟨w.heap.size + 1, 1, none⟩ = some (.slice (A1p1) n1p1 c1p1) := hGb11.cell (hGa11.cell k10_1_1 (fun e => by have := hr_X2 (w.heap.size + 1) e.symm; omega)) (fun e => by have := hr_X3 (w.heap.size + 1) e.symm; omega)
        have k11_1_2 : w11.cell? ⟨w.heap.size + 1, 2, none⟩ = some (.slice (A2p1) n2p1 c2p1) := hGb11.cell (hGa11.cell k10_1_2 (fun e => by have := hr_X2 (w.heap.size + 1) e.symm; omega)) (fun e => by have := hr_X3 (w.heap.size + 1) e.symm; omega)
        have k11_2_0 : w11.cell? ⟨bW3, 0, none⟩ = some (.int .i64 a0q0) := hGb11.cell (hGa11.cell k10_2_0 (fun e => by have := hr_X2 (bW3) e.symm; omega)) (fun e => by have := hr_X3 (bW3) e.symm; omega)
        have k11_2_1 : w11.cell? ⟨bW3, 1, none⟩ = some (.slice AW1q0 k1q0 cW1q0) := hGb11.cell (hGa11.cell k10_2_1 (fun e => by have := hr_X2 (bW3) e.symm; omega)) (fun e => by have := hr_X3 (bW3) e.symm; omega)
        have k11_2_2 : w11.cell? ⟨bW3, 2, none⟩ = some (.slice AW2q0 k2q0 cW2q0) := hGb11.cell (hGa11.cell k10_2_2 (fun e => by have := hr_X2 (bW3) e.symm; omega)) (fun e => by have := hr_X3 (bW3) e.symm; omega)
        have k11_3_0 : w11.cell? ⟨w4.heap.size, 0, none⟩ = some (.int .i64 a0p0) := hGb11.cell (hGa11.cell k10_3_0 (fun e => by have := hr_X2 (w4.heap.size) e.symm; omega)) (fun e => by have := hr_X3 (w4.heap.size) e.symm; omega)
        have k11_3_1 : w11.cell? ⟨w4.heap.size, 1, none⟩ = some (.slice (some ⟨g4_1, 0, none⟩) n1p0 n1p0) := hGb11.cell (hGa11.cell k10_3_1 (fun e => by have := hr_X2 (w4.heap.size) e.symm; omega)) (fun e => by have := hr_X3 (w4.heap.size) e.symm; omega)
        have k11_3_2 : w11.cell? ⟨w4.heap.size, 2, none⟩ = some (.slice (some ⟨g4_2, 0, none⟩) n2p0 n2p0) := hGb11.cell (hGa11.cell k10_3_2 (fun e => by have := hr_X2 (w4.heap.size) e.symm; omega)) (fun e => by have := hr_X3 (w4.heap.size) e.symm; omega)
        have k11_4_0 : w11.cell? ⟨w5.heap.size, 0, none⟩ = some (.int .i64 a0p1) := hGb11.cell (hGa11.cell k10_4_0 (fun e => by have := hr_X2 (w5.heap.size) e.symm; omega)) (fun e => by have := hr_X3 (w5.heap.size) e.symm; omega)
        have k11_4_1 : w11.cell? ⟨w5.heap.size, 1, none⟩ = some (.slice (some ⟨g5_1, 0, none⟩) n1p1 n1p1) := hGb11.cell (hGa11.cell k10_4_1 (fun e => by have := hr_X2 (w5.heap.size) e.symm; omega)) (fun e => by have := hr_X3 (w5.heap.size) e.symm; omega)
        have k11_4_2 : w11.cell? ⟨w5.heap.size, 2, none⟩ = some (.slice (some ⟨g5_2, 0, none⟩) n2p1 n2p1) := hGb11.cell (hGa11.cell k10_4_2 (fun e => by have := hr_X2 (w5.heap.size) e.symm; omega)) (fun e => by have := hr_X3 (w5.heap.size) e.symm; omega)
        have k11_5_0 : w11.cell? ⟨w6.heap.size, 0, none⟩ = some (.int .i64 a0q0) := hGb11.cell (hGa11.cell k10_5_0 (fun e => by have := hr_X2 (w6.heap.size) e.symm; omega)) (fun e => by have := hr_X3 (w6.heap.size) e.symm; omega)
        have k11_5_1 : w11.cell? ⟨w6.heap.size, 1, none⟩ = some (.slice A6_1q0 k1q0 c6_1q0) := hGb11.cell (hGa11.cell k10_5_1 (fun e => by have := hr_X2 (w6.heap.size) e.symm; omega)) (fun e => by have := hr_X3 (w6.heap.size) e.symm; omega)
        have k11_5_2 : w11.cell? ⟨w6.heap.size, 2, none⟩ = some (.slice A6_2q0 k2q0 c6_2q0) := hGb11.cell (hGa11.cell k10_5_2 (fun e => by have := hr_X2 (w6.heap.size) e.symm; omega)) (fun e => by have := hr_X3 (w6.heap.size) e.symm; omega)
        have HW1q011 := lay ((HW1q010.out.grown hGa11 (fun r hr => by have := hr_X2 r hr; omega)).grown hGb11 (fun r hr => by have := hr_X3 r hr; omega))
        have HW2q011 := lay ((HW2q010.out.grown hGa11 (fun r hr => by have := hr_X2 r hr; omega)).grown hGb11 (fun r hr => by have := hr_X3 r hr; omega))
        have HG1q011 := lay ((HG1q010.out.grown hGa11 (fun r hr => by have := hr_X2 r hr; omega)).grown hGb11 (fun r hr => by have := hr_X3 r hr; omega))
        have HG2q011 := lay ((HG2q010.out.grown hGa11 (fun r hr => by have := hr_X2 r hr; omega)).grown hGb11 (fun r hr => by have := hr_X3 r hr; omega))
        have bl11_0 : w.heap.size < w11.heap.size := World.block_lt_of_cell? _ _ k11_0_0
        have bl11_1 : w.heap.size + 1 < w11.heap.size := World.block_lt_of_cell? _ _ k11_1_0
        have bl11_2 : bW3 < w11.heap.size := World.block_lt_of_cell? _ _ k11_2_0
        have bl11_3 : w4.heap.size < w11.heap.size := World.block_lt_of_cell? _ _ k11_3_0
        have bl11_4 : w5.heap.size < w11.heap.size := World.block_lt_of_cell? _ _ k11_4_0
        have bl11_5 : w6.heap.size < w11.heap.size := World.block_lt_of_cell? _ _ k11_5_0
        have HX211 := lay hOa11
        have HX311 := lay hOb11
        clear hOa11 hOb11 hGa11 hGb11 hM11
        clear k10_0_0 k10_0_1 k10_0_2 k10_1_0 k10_1_1 k10_1_2 k10_2_0 k10_2_1 k10_2_2 k10_3_0 k10_3_1 k10_3_2 k10_4_0 k10_4_1 k10_4_2 k10_5_0 k10_5_1 k10_5_2 HW1q010 HW2q010 HG1q010 HG2q010 HX210 HX310
        clear HX211
        clear HX311
        go_wp2_with (fail)
        refine (eqTableau (xs1 := zs1q0) (xs2 := zs2q0) ?_ ?_ ?_ ?_ HZ1q0.out hk1q0 HZ2q0.out hk2q0).mono ?_
        · exact HG1q011.out.rd.mono (by (repeat' (first | (with_reducible exact Below.refl _ _) | (with_reducible assumption) | (with_reducible refine Below.alloc ?_ ?_ _) | (with_reducible refine Below.drew ?_) | (with_reducible refine bdN ?_ _) | (with_reducible refine Below.setCell ?_ ?_ _) | (with_reducible refine chn ?_ (by assumption) ?_) | omega | (simp; done) | (simp; omega))))
        · exact HG2q011.out.rd.mono (by (repeat' (first | (with_reducible exact Below.refl _ _) | (with_reducible assumption) | (with_reducible refine Below.alloc ?_ ?_ _) | (with_reducible refine Below.drew ?_) | (with_reducible refine bdN ?_ _) | (with_reducible refine Below.setCell ?_ ?_ _) | (with_reducible refine chn ?_ (by assumption) ?_) | omega | (simp; done) | (simp; omega))))
        · exact HW1q011.out.rd.mono (by (repeat' (first | (with_reducible exact Below.refl _ _) | (with_reducible assumption) | (with_reducible refine Below.alloc ?_ ?_ _) | (with_reducible refine Below.drew ?_) | (with_reducible refine bdN ?_ _) | (with_reducible refine Below.setCell ?_ ?_ _) | (with_reducible refine chn ?_ (by assumption) ?_) | omega | (simp; done) | (simp; omega))))
        · exact HW2q011.out.rd.mono (by (repeat' (first | (with_reducible exact Below.refl _ _) | (with_reducible assumption) | (with_reducible refine Below.alloc ?_ ?_ _) | (with_reducible refine Below.drew ?_) | (with_reducible refine bdN ?_ _) | (with_reducible refine Below.setCell ?_ ?_ _) | (with_reducible refine chn ?_ (by assumption) ?_) | omega | (simp; done) | (simp; omega))))
        rintro ee w12 ⟨rfl, hb12⟩
        have hL12 : Below w11.heap.size w11 w12 := by (repeat' (first | (with_reducible exact Below.refl _ _) | (with_reducible assumption) | (with_reducible refine Below.alloc ?_ ?_ _) | (with_reducible refine Below.drew ?_) | (with_reducible refine bdN ?_ _) | (with_reducible refine Below.setCell ?_ ?_ _) | (with_reducible refine chn ?_ (by assumption) ?_) | omega | (simp; done) | (simp; omega)))
        have hz12 := hb12.size
        (try simp only [World.size_alloc] at hz12)
        have hB12 : Below w.heap.size w w12 := chn hB11 hL12 hB11.size
        have k12_0_0 : w12.cell? ⟨w.heap.size, 0, none⟩ = some (.int .i64 a0p0) := (hL12.cell (p := ⟨w.heap.size, 0, none⟩) (by show w.heap.size < w11.heap.size; omega)).trans k11_0_0
        have k12_0_1 : w12.cell? ⟨w.heap.size, 1, none⟩ = some (.slice (A1p0) n1p0 c1p0) := (hL12.cell (p := ⟨w.heap.size, 1, none⟩) (by show w.heap.size < w11.heap.size; omega)).trans k11_0_1
        have k12_0_2 : w12.cell? ⟨w.heap.size, 2, none⟩ = some (.slice (A2p0) n2p0 c2p0) := (hL12.cell (p := ⟨w.heap.size, 2, none⟩) (by show w.heap.size < w11.heap.size; omega)).trans k11_0_2
        have k12_1_0 : w12.cell? ⟨w.heap.size + 1, 0, none⟩ = some (.int .i64 a0p1) := (hL12.cell (p := ⟨w.heap.size + 1, 0, none⟩) (by show w.heap.size + 1 < w11.heap.size; omega)).trans k11_1_0
        have k12_1_1 : w12.cell? ⟨w.heap.size + 1, 1, none⟩ = some (.slice (A1p1) n1p1 c1p1) := (hL12.cell (p := ⟨w.heap.size + 1, 1, none⟩) (by show w.heap.size + 1 < w11.heap.size; omega)).trans k11_1_1
        have k12_1_2 : w12.cell? ⟨w.heap.size + 1, 2, none⟩ = some (.slice (A2p1) n2p1 c2p1) := (hL12.cell (p := ⟨w.heap.size + 1, 2, none⟩) (by show w.heap.size + 1 < w11.heap.size; omega)).trans k11_1_2
        have k12_2_0 : w12.cell? ⟨bW3, 0, none⟩ = some (.int .i64 a0q0) := (hL12.cell (p := ⟨bW3, 0, none⟩) (by show bW3 < w11.heap.size; omega)).trans k11_2_0
        have k12_2_1 : w12.cell? ⟨bW3, 1, none⟩ = some (.slice AW1q0 k1q0 cW1q0) := (hL12.cell (p := ⟨bW3, 1, none⟩) (by show bW3 < w11.heap.size; omega)).trans k11_2_1
        have k12_2_2 : w12.cell? ⟨bW3, 2, none⟩ = some (.slice AW2q0 k2q0 cW2q0) := (hL12.cell (p := ⟨bW3, 2, none⟩) (by show bW3 < w11.heap.size; omega)).trans k11_2_2
        have k12_3_0 : w12.cell? ⟨w4.heap.size, 0, none⟩ = some (.int .i64 a0p0) := (hL12.cell (p := ⟨w4.heap.size, 0, none⟩) (by show w4.heap.size < w11.heap.size; omega)).trans k11_3_0
        have k12_3_1 : w12.cell? ⟨w4.heap.size, 1, none⟩ = some (.slice (some ⟨g4_1, 0, none⟩) n1p0 n1p0) := (hL12.cell (p := ⟨w4.heap.size, 1, none⟩) (by show w4.heap.size < w11.heap.size; omega)).trans k11_3_1
        have k12_3_2 : w12.cell? ⟨w4.heap.size, 2, none⟩ = some (.slice (some ⟨g4_2, 0, none⟩) n2p0 n2p0) := (hL12.cell (p := ⟨w4.heap.size, 2, none⟩) (by show w4.heap.size < w11.heap.size; omega)).trans k11_3_2
        have k12_4_0 : w12.cell? ⟨w5.heap.size, 0, none⟩ = some (.int .i64 a0p1) := (hL12.cell (p := ⟨w5.heap.size, 0, none⟩) (by show w5.heap.size < w11.heap.size; omega)).trans k11_4_0
        have k12_4_1 : w12.cell? ⟨w5.heap.size, 1, none⟩ = some (.slice (some ⟨g5_1, 0, none⟩) n1p1 n1p1) := (hL12.cell (p := ⟨w5.heap.size, 1, none⟩) (by show w5.heap.size < w11.heap.size; omega)).trans k11_4_1
        have k12_4_2 : w12.cell? ⟨w5.heap.size, 2, none⟩ = some (.slice (some ⟨g5_2, 0, none⟩) n2p1 n2p1) := (hL12.cell (p := ⟨w5.heap.size, 2, none⟩) (by show w5.heap.size < w11.heap.size; omega)).trans k11_4_2
        have k12_5_0 : w12.cell? ⟨w6.heap.size, 0, none⟩ = some (.int .i64 a0q0) := (hL12.cell (p := ⟨w6.heap.size, 0, none⟩) (by show w6.heap.size < w11.heap.size; omega)).trans k11_5_0
        have k12_5_1 : w12.cell? ⟨w6.heap.size, 1, none⟩ = some (.slice A6_1q0 k1q0 c6_1q0) := (hL12.cell (p := ⟨w6.heap.size, 1, none⟩) (by show w6.heap.size < w11.heap.size; omega)).trans k11_5_1
        have k12_5_2 : w12.cell? ⟨w6.heap.size, 2, none⟩ = some (.slice A6_2q0 k2q0 c6_2q0) := (hL12.cell (p := ⟨w6.heap.size, 2, none⟩) (by show w6.heap.size < w11.heap.size; omega)).trans k11_5_2
        have bl12_0 : w.heap.size < w12.heap.size := World.block_lt_of_cell? _ _ k12_0_0
        have bl12_1 : w.heap.size + 1 < w12.heap.size := World.block_lt_of_cell? _ _ k12_1_0
        have bl12_2 : bW3 < w12.heap.size := World.block_lt_of_cell? _ _ k12_2_0
        have bl12_3 : w4.heap.size < w12.heap.size := World.block_lt_of_cell? _ _ k12_3_0
        have bl12_4 : w5.heap.size < w12.heap.size := World.block_lt_of_cell? _ _ k12_4_0
        have bl12_5 : w6.heap.size < w12.heap.size := World.block_lt_of_cell? _ _ k12_5_0
        have HW1q012 := lay (HW1q011.out.mono hL12)
        have HW2q012 := lay (HW2q011.out.mono hL12)
        have HG1q012 := lay (HG1q011.out.mono hL12)
        have HG2q012 := lay (HG2q011.out.mono hL12)
        clear hb12 hL12
        clear k11_0_0 k11_0_1 k11_0_2 k11_1_0 k11_1_1 k11_1_2 k11_2_0 k11_2_1 k11_2_2 k11_3_0 k11_3_1 k11_3_2 k11_4_0 k11_4_1 k11_4_2 k11_5_0 k11_5_1 k11_5_2 HW1q011 HW2q011 HG1q011 HG2q011
        go_wp2_with (fail)
        refine (markTableau (B1 := w5.heap.size + 1) (B2 := w5.heap.size + 1) ?_ ?_ hNE6 HZ1q0.out hk1q0 HZ2q0.out hk2q0 (by omega) (by omega)).mono ?_
        · exact HG1q012.out
        · exact HG2q012.out
        rintro ee w13 ⟨rfl, hOa13, hOb13, wm13, hGa13, hGb13⟩
        have hzm13 := hGa13.size
        have hzn13 := hGb13.size
        have hz13 : w12.heap.size ≤ w13.heap.size := Nat.le_trans hzm13 hzn13
        have hM13 := Below.grown hB12 hGa13 hB12.size (fun r hr => by have := hr_G1q0 r hr; omega)
        have hB13 : Below w.heap.size w w13 := Below.grown hM13 hGb13 hM13.size (fun r hr => by have := hr_G2q0 r hr; omega)
        have k13_0_0 : w13.cell? ⟨w.heap.size, 0, none⟩ = some (.int .i64 a0p0) := hGb13.cell (hGa13.cell k12_0_0 (fun e => by have := hr_G1q0 (w.heap.size) e.symm; omega)) (fun e => by have := hr_G2q0 (w.heap.size) e.symm; omega)
        have k13_0_1 : w13.cell? ⟨w.heap.size, 1, none⟩ = some (.slice (A1p0) n1p0 c1p0) := hGb13.cell (hGa13.cell k12_0_1 (fun e => by have := hr_G1q0 (w.heap.size) e.symm; omega)) (fun e => by have := hr_G2q0 (w.heap.size) e.symm; omega)
        have k13_0_2 : w13.cell? ⟨w.heap.size, 2, none⟩ = some (.slice (A2p0) n2p0 c2p0) := hGb13.cell (hGa13.cell k12_0_2 (fun e => by have := hr_G1q0 (w.heap.size) e.symm; omega)) (fun e => by have := hr_G2q0 (w.heap.size) e.symm; omega)
        have k13_1_0 : w13.cell? ⟨w.heap.size + 1, 0, none⟩ = some (.int .i64 a0p1) := hGb13.cell (hGa13.cell k12_1_0 (fun e => by have := hr_G1q0 (w.heap.size + 1) e.symm; omega)) (fun e => by have := hr_G2q0 (w.heap.size + 1) e.symm; omega)
        have k13_1_1 : w13.cell? ⟨w.heap.size + 1, 1, none⟩ = some (.slice (A1p1) n1p1 c1p1) := hGb13.cell (hGa13.cell k12_1_1 (fun e => by have := hr_G1q0 (w.heap.size + 1) e.symm; omega)) (fun e => by have := hr_G2q0 (w.heap.size + 1) e.symm; omega)
        have k13_1_2 : w13.cell? ⟨w.heap.size + 1, 2, none⟩ = some (.slice (A2p1) n2p1 c2p1) := hGb13.cell (hGa13.cell k12_1_2 (fun e => by have := hr_G1q0 (w.heap.size + 1) e.symm; omega)) (fun e => by have := hr_G2q0 (w.heap.size + 1) e.symm; omega)
        have k13_2_0 : w13.cell? ⟨bW3, 0, none⟩ = some (.int .i64 a0q0) := hGb13.cell (hGa13.cell k12_2_0 (fun e => by have := hr_G1q0 (bW3) e.symm; omega)) (fun e => by have := hr_G2q0 (bW3) e.symm; omega)
        have k13_2_1 : w13.cell? ⟨bW3, 1, none⟩ = some (.slice AW1q0 k1q0 cW1q0) := hGb13.cell (hGa13.cell k12_2_1 (fun e => by have := hr_G1q0 (bW3) e.symm; omega)) (fun e => by have := hr_G2q0 (bW3) e.symm; omega)
        have k13_2_2 : w13.cell? ⟨bW3, 2, none⟩ = some (.slice AW2q0 k2q0 cW2q0) := hGb13.cell (hGa13.cell k12_2_2 (fun e => by have := hr_G1q0 (bW3) e.symm; omega)) (fun e => by have := hr_G2q0 (bW3) e.symm; omega)
        have k13_3_0 : w13.cell? ⟨w4.heap.size, 0, none⟩ = some (.int .i64 a0p0) := hGb13.cell (hGa13.cell k12_3_0 (fun e => by have := hr_G1q0 (w4.heap.size) e.symm; omega)) (fun e => by have := hr_G2q0 (w4.heap.size) e.symm; omega)
        have k13_3_1 : w13.cell? ⟨w4.heap.size, 1, none⟩ = some (.slice (some ⟨g4_1, 0, none⟩) n1p0 n1p0) := hGb13.cell (hGa13.cell k12_3_1 (fun e => by have := hr_G1q0 (w4.heap.size) e.symm; omega)) (fun e => by have := hr_G2q0 (w4.heap.size) e.symm; omega)
        have k13_3_2 : w13.cell? ⟨w4.heap.size, 2, none⟩ = some (.slice (some ⟨g4_2, 0, none⟩) n2p0 n2p0) := hGb13.cell (hGa13.cell k12_3_2 (fun e => by have := hr_G1q0 (w4.heap.size) e.symm; omega)) (fun e => by have := hr_G2q0 (w4.heap.size) e.symm; omega)
        have k13_4_0 : w13.cell? ⟨w5.heap.size, 0, none⟩ = some (.int .i64 a0p1) := hGb13.cell (hGa13.cell k12_4_0 (fun e => by have := hr_G1q0 (w5.heap.size) e.symm; omega)) (fun e => by have := hr_G2q0 (w5.heap.size) e.symm; omega)
        have k13_4_1 : w13.cell? ⟨w5.heap.size, 1, none⟩ = some (.slice (some ⟨g5_1, 0, none⟩) n1p1 n1p1) := hGb13.cell (hGa13.cell k12_4_1 (fun e => by have := hr_G1q0 (w5.heap.size) e.symm; omega)) (fun e => by have := hr_G2q0 (w5.heap.size) e.symm; omega)
        have k13_4_2 : w13.cell? ⟨w5.heap.size, 2, none⟩ = some (.slice (some ⟨g5_2, 0, none⟩) n2p1 n2p1) := hGb13.cell (hGa13.cell k12_4_2 (fun e => by have := hr_G1q0 (w5.heap.size) e.symm; omega)) (fun e => by have := hr_G2q0 (w5.heap.size) e.symm; omega)
        have k13_5_0 : w13.cell? ⟨w6.heap.size, 0, none⟩ = some (.int .i64 a0q0) := hGb13.cell (hGa13.cell k12_5_0 (fun e => by have := hr_G1q0 (w6.heap.size) e.symm; omega)) (fun e => by have := hr_G2q0 (w6.heap.size) e.symm; omega)
        have k13_5_1 : w13.cell? ⟨w6.heap.size, 1, none⟩ = some (.slice A6_1q0 k1q0 c6_1q0) := hGb13.cell (hGa13.cell k12_5_1 (fun e => by have := hr_G1q0 (w6.heap.size) e.symm; omega)) (fun e => by have := hr_G2q0 (w6.heap.size) e.symm; omega)
        have k13_5_2 : w13.cell? ⟨w6.heap.size, 2, none⟩ = some (.slice A6_2q0 k2q0 c6_2q0) := hGb13.cell (hGa13.cell k12_5_2 (fun e => by have := hr_G1q0 (w6.heap.size) e.symm; omega)) (fun e => by have := hr_G2q0 (w6.heap.size) e.symm; omega)
        have HW1q013 := lay ((HW1q012.out.grown hGa13 (fun r hr => by have := hr_G1q0 r hr; omega)).grown hGb13 (fun r hr => by have := hr_G2q0 r hr; omega))
        have HW2q013 := lay ((HW2q012.out.grown hGa13 (fun r hr => by have := hr_G1q0 r hr; omega)).grown hGb13 (fun r hr => by have := hr_G2q0 r hr; omega))
        have bl13_0 : w.heap.size < w13.heap.size := World.block_lt_of_cell? _ _ k13_0_0
        have bl13_1 : w.heap.size + 1 < w13.heap.size := World.block_lt_of_cell? _ _ k13_1_0
        have bl13_2 : bW3 < w13.heap.size := World.block_lt_of_cell? _ _ k13_2_0
        have bl13_3 : w4.heap.size < w13.heap.size := World.block_lt_of_cell? _ _ k13_3_0
        have bl13_4 : w5.heap.size < w13.heap.size := World.block_lt_of_cell? _ _ k13_4_0
        have bl13_5 : w6.heap.size < w13.heap.size := World.block_lt_of_cell? _ _ k13_5_0
        have HG1q013 := lay hOa13
        have HG2q013 := lay hOb13
        clear hOa13 hOb13 hGa13 hGb13 hM13
        clear k12_0_0 k12_0_1 k12_0_2 k12_1_0 k12_1_1 k12_1_2 k12_2_0 k12_2_1 k12_2_2 k12_3_0 k12_3_1 k12_3_2 k12_4_0 k12_4_1 k12_4_2 k12_5_0 k12_5_1 k12_5_2 HW1q012 HW2q012 HG1q012 HG2q012
        go_wp2_with (fail)
        refine (heldTableau ?_ ?_ hk1q0 hk2q0 (by decide) (by decide)).mono ?_
        · exact HG1q013.out.rd.mono (by (repeat' (first | (with_reducible exact Below.refl _ _) | (with_reducible assumption) | (with_reducible refine Below.alloc ?_ ?_ _) | (with_reducible refine Below.drew ?_) | (with_reducible refine bdN ?_ _) | (with_reducible refine Below.setCell ?_ ?_ _) | (with_reducible refine chn ?_ (by assumption) ?_) | omega | (simp; done) | (simp; omega))))
        · exact HG2q013.out.rd.mono (by (repeat' (first | (with_reducible exact Below.refl _ _) | (with_reducible assumption) | (with_reducible refine Below.alloc ?_ ?_ _) | (with_reducible refine Below.drew ?_) | (with_reducible refine bdN ?_ _) | (with_reducible refine Below.setCell ?_ ?_ _) | (with_reducible refine chn ?_ (by assumption) ?_) | omega | (simp; done) | (simp; omega))))
        rintro ee w14 ⟨rfl, hb14⟩
        have hL14 : Below w13.heap.size w13 w14 := by (repeat' (first | (with_reducible exact Below.refl _ _) | (with_reducible assumption) | (with_reducible refine Below.alloc ?_ ?_ _) | (with_reducible refine Below.drew ?_) | (with_reducible refine bdN ?_ _) | (with_reducible refine Below.setCell ?_ ?_ _) | (with_reducible refine chn ?_ (by assumption) ?_) | omega | (simp; done) | (simp; omega)))
        have hz14 := hb14.size
        (try simp only [World.size_alloc] at hz14)
        have hB14 : Below w.heap.size w w14 := chn hB13 hL14 hB13.size
        have k14_0_0 : w14.cell? ⟨w.heap.size, 0, none⟩ = some (.int .i64 a0p0) := (hL14.cell (p := ⟨w.heap.size, 0, none⟩) (by show w.heap.size < w13.heap.size; omega)).trans k13_0_0
        have k14_0_1 : w14.cell? ⟨w.heap.size, 1, none⟩ = some (.slice (A1p0) n1p0 c1p0) := (hL14.cell (p := ⟨w.heap.size, 1, none⟩) (by show w.heap.size < w13.heap.size; omega)).trans k13_0_1
        have k14_0_2 : w14.cell? ⟨w.heap.size, 2, none⟩ = some (.slice (A2p0) n2p0 c2p0) := (hL14.cell (p := ⟨w.heap.size, 2, none⟩) (by show w.heap.size < w13.heap.size; omega)).trans k13_0_2
        have k14_1_0 : w14.cell? ⟨w.heap.size + 1, 0, none⟩ = some (.int .i64 a0p1) := (hL14.cell (p := ⟨w.heap.size + 1, 0, none⟩) (by show w.heap.size + 1 < w13.heap.size; omega)).trans k13_1_0
        have k14_1_1 : w14.cell? ⟨w.heap.size + 1, 1, none⟩ = some (.slice (A1p1) n1p1 c1p1) := (hL14.cell (p := ⟨w.heap.size + 1, 1, none⟩) (by show w.heap.size + 1 < w13.heap.size; omega)).trans k13_1_1
        have k14_1_2 : w14.cell? ⟨w.heap.size + 1, 2, none⟩ = some (.slice (A2p1) n2p1 c2p1) := (hL14.cell (p := ⟨w.heap.size + 1, 2, none⟩) (by show w.heap.size + 1 < w13.heap.size; omega)).trans k13_1_2
        have k14_2_0 : w14.cell? ⟨bW3, 0, none⟩ = some (.int .i64 a0q0) := (hL14.cell (p := ⟨bW3, 0, none⟩) (by show bW3 < w13.heap.size; omega)).trans k13_2_0
        have k14_2_1 : w14.cell? ⟨bW3, 1, none⟩ = some (.slice AW1q0 k1q0 cW1q0) := (hL14.cell (p := ⟨bW3, 1, none⟩) (by show bW3 < w13.heap.size; omega)).trans k13_2_1
        have k14_2_2 : w14.cell? ⟨bW3, 2, none⟩ = some (.slice AW2q0 k2q0 cW2q0) := (hL14.cell (p := ⟨bW3, 2, none⟩) (by show bW3 < w13.heap.size; omega)).trans k13_2_2
        have k14_3_0 : w14.cell? ⟨w4.heap.size, 0, none⟩ = some (.int .i64 a0p0) := (hL14.cell (p := ⟨w4.heap.size, 0, none⟩) (by show w4.heap.size < w13.heap.size; omega)).trans k13_3_0
        have k14_3_1 : w14.cell? ⟨w4.heap.size, 1, none⟩ = some (.slice (some ⟨g4_1, 0, none⟩) n1p0 n1p0) := (hL14.cell (p := ⟨w4.heap.size, 1, none⟩) (by show w4.heap.size < w13.heap.size; omega)).trans k13_3_1
        have k14_3_2 : w14.cell? ⟨w4.heap.size, 2, none⟩ = some (.slice (some ⟨g4_2, 0, none⟩) n2p0 n2p0) := (hL14.cell (p := ⟨w4.heap.size, 2, none⟩) (by show w4.heap.size < w13.heap.size; omega)).trans k13_3_2
        have k14_4_0 : w14.cell? ⟨w5.heap.size, 0, none⟩ = some (.int .i64 a0p1) := (hL14.cell (p := ⟨w5.heap.size, 0, none⟩) (by show w5.heap.size < w13.heap.size; omega)).trans k13_4_0
        have k14_4_1 : w14.cell? ⟨w5.heap.size, 1, none⟩ = some (.slice (some ⟨g5_1, 0, none⟩) n1p1 n1p1) := (hL14.cell (p := ⟨w5.heap.size, 1, none⟩) (by show w5.heap.size < w13.heap.size; omega)).trans k13_4_1
        have k14_4_2 : w14.cell? ⟨w5.heap.size, 2, none⟩ = some (.slice (some ⟨g5_2, 0, none⟩) n2p1 n2p1) := (hL14.cell (p := ⟨w5.heap.size, 2, none⟩) (by show w5.heap.size < w13.heap.size; omega)).trans k13_4_2
        have k14_5_0 : w14.cell? ⟨w6.heap.size, 0, none⟩ = some (.int .i64 a0q0) := (hL14.cell (p := ⟨w6.heap.size, 0, none⟩) (by show w6.heap.size < w13.heap.size; omega)).trans k13_5_0
        have k14_5_1 : w14.cell? ⟨w6.heap.size, 1, none⟩ = some (.slice A6_1q0 k1q0 c6_1q0) := (hL14.cell (p := ⟨w6.heap.size, 1, none⟩) (by show w6.heap.size < w13.heap.size; omega)).trans k13_5_1
        have k14_5_2 : w14.cell? ⟨w6.heap.size, 2, none⟩ = some (.slice A6_2q0 k2q0 c6_2q0) := (hL14.cell (p := ⟨w6.heap.size, 2, none⟩) (by show w6.heap.size < w13.heap.size; omega)).trans k13_5_2
        have bl14_0 : w.heap.size < w14.heap.size := World.block_lt_of_cell? _ _ k14_0_0
        have bl14_1 : w.heap.size + 1 < w14.heap.size := World.block_lt_of_cell? _ _ k14_1_0
        have bl14_2 : bW3 < w14.heap.size := World.block_lt_of_cell? _ _ k14_2_0
        have bl14_3 : w4.heap.size < w14.heap.size := World.block_lt_of_cell? _ _ k14_3_0
        have bl14_4 : w5.heap.size < w14.heap.size := World.block_lt_of_cell? _ _ k14_4_0
        have bl14_5 : w6.heap.size < w14.heap.size := World.block_lt_of_cell? _ _ k14_5_0
        have HW1q014 := lay (HW1q013.out.mono hL14)
        have HW2q014 := lay (HW2q013.out.mono hL14)
        have HG1q014 := lay (HG1q013.out.mono hL14)
        have HG2q014 := lay (HG2q013.out.mono hL14)
        clear hb14 hL14
        clear k13_0_0 k13_0_1 k13_0_2 k13_1_0 k13_1_1 k13_1_2 k13_2_0 k13_2_1 k13_2_2 k13_3_0 k13_3_1 k13_3_2 k13_4_0 k13_4_1 k13_4_2 k13_5_0 k13_5_1 k13_5_2 HW1q013 HW2q013 HG1q013 HG2q013
        go_wp2_with (fail)
        go_cut [15, 16] (fun s15 s16 wx => (∃ (b : Nat) (A1 : Option Addr) (c1 : Nat) (A2 : Option Addr) (c2 : Nat), s15 = .pointer (some ⟨b, 0, none⟩) ∧ s16 = .bool r1 ∧ wx.cell? ⟨b, 0, none⟩ = some (.int .i64 a0q0) ∧ wx.cell? ⟨b, 1, none⟩ = some (.slice A1 k1q0 c1) ∧ wx.cell? ⟨b, 2, none⟩ = some (.slice A2 k2q0 c2) ∧ Hid (RdB pauliE wx wx.heap.size A1 zs1q0) ∧ Hid (RdB pauliE wx wx.heap.size A2 zs2q0)) ∧ (wx.cell? ⟨w.heap.size, 0, none⟩ = some (.int .i64 a0p0) ∧ wx.cell? ⟨w.heap.size, 1, none⟩ = some (.slice (A1p0) n1p0 c1p0) ∧ wx.cell? ⟨w.heap.size, 2, none⟩ = some (.slice (A2p0) n2p0 c2p0) ∧ wx.cell? ⟨w.heap.size + 1, 0, none⟩ = some (.int .i64 a0p1) ∧ wx.cell? ⟨w.heap.size + 1, 1, none⟩ = some (.slice (A1p1) n1p1 c1p1) ∧ wx.cell? ⟨w.heap.size + 1, 2, none⟩ = some (.slice (A2p1) n2p1 c2p1) ∧ wx.cell? ⟨bW3, 0, none⟩ = some (.int .i64 a0q0) ∧ wx.cell? ⟨bW3, 1, none⟩ = some (.slice AW1q0 k1q0 cW1q0) ∧ wx.cell? ⟨bW3, 2, none⟩ = some (.slice AW2q0 k2q0 cW2q0) ∧ wx.cell? ⟨w4.heap.size, 0, none⟩ = some (.int .i64 a0p0) ∧ wx.cell? ⟨w4.heap.size, 1, none⟩ = some (.slice (some ⟨g4_1, 0, none⟩) n1p0 n1p0) ∧ wx.cell? ⟨w4.heap.size, 2, none⟩ = some (.slice (some ⟨g4_2, 0, none⟩) n2p0 n2p0) ∧ wx.cell? ⟨w5.heap.size, 0, none⟩ = some (.int .i64 a0p1) ∧ wx.cell? ⟨w5.heap.size, 1, none⟩ = some (.slice (some ⟨g5_1, 0, none⟩) n1p1 n1p1) ∧ wx.cell? ⟨w5.heap.size, 2, none⟩ = some (.slice (some ⟨g5_2, 0, none⟩) n2p1 n2p1) ∧ wx.cell? ⟨w6.heap.size, 0, none⟩ = some (.int .i64 a0q0) ∧ wx.cell? ⟨w6.heap.size, 1, none⟩ = some (.slice A6_1q0 k1q0 c6_1q0) ∧ wx.cell? ⟨w6.heap.size, 2, none⟩ = some (.slice A6_2q0 k2q0 c6_2q0) ∧ Hid (RdB pauliE wx w3.heap.size AW1q0 zs1q0) ∧ Hid (RdB pauliE wx w3.heap.size AW2q0 zs2q0) ∧ Hid (Ow pauliE wx (w5.heap.size + 1) 45 A6_1q0 (mks PauliV.mark 1 k1q0)) ∧ Hid (Ow pauliE wx (w5.heap.size + 1) 45 A6_2q0 (mks PauliV.mark (1 + 3 * (k1q0 : Int)) k2q0)) ∧ w14.heap.size ≤ wx.heap.size ∧ Below w.heap.size w wx))
        case first =>
          have yk14_0_0 : w14.drew.cell? ⟨w.heap.size, 0, none⟩ = some (.int .i64 a0p0) := k14_0_0
          have yk14_0_1 : w14.drew.cell? ⟨w.heap.size, 1, none⟩ = some (.slice (A1p0) n1p0 c1p0) := k14_0_1
          have yk14_0_2 : w14.drew.cell? ⟨w.heap.size, 2, none⟩ = some (.slice (A2p0) n2p0 c2p0) := k14_0_2
          have yk14_1_0 : w14.drew.cell? ⟨w.heap.size + 1, 0, none⟩ = some (.int .i64 a0p1) := k14_1_0
          have yk14_1_1 : w14.drew.cell? ⟨w.heap.size + 1, 1, none⟩ = some (.slice (A1p1) n1p1 c1p1) := k14_1_1
          have yk14_1_2 : w14.drew.cell? ⟨w.heap.size + 1, 2, none⟩ = some (.slice (A2p1) n2p1 c2p1) := k14_1_2
          have yk14_2_0 : w14.drew.cell? ⟨bW3, 0, none⟩ = some (.int .i64 a0q0) := k14_2_0
          have yk14_2_1 : w14.drew.cell? ⟨bW3, 1, none⟩ = some (.slice AW1q0 k1q0 cW1q0) := k14_2_1
          have yk14_2_2 : w14.drew.cell? ⟨bW3, 2, none⟩ = some (.slice AW2q0 k2q0 cW2q0) := k14_2_2
          have yk14_3_0 : w14.drew.cell? ⟨w4.heap.size, 0, none⟩ = some (.int .i64 a0p0) := k14_3_0
          have yk14_3_1 : w14.drew.cell? ⟨w4.heap.size, 1, none⟩ = some (.slice (some ⟨g4_1, 0, none⟩) n1p0 n1p0) := k14_3_1
          have yk14_3_2 : w14.drew.cell? ⟨w4.heap.size, 2, none⟩ = some (.slice (some ⟨g4_2, 0, none⟩) n2p0 n2p0) := k14_3_2
          have yk14_4_0 : w14.drew.cell? ⟨w5.heap.size, 0, none⟩ = some (.int .i64 a0p1) := k14_4_0
          have yk14_4_1 : w14.drew.cell? ⟨w5.heap.size, 1, none⟩ = some (.slice (some ⟨g5_1, 0, none⟩) n1p1 n1p1) := k14_4_1
          have yk14_4_2 : w14.drew.cell? ⟨w5.heap.size, 2, none⟩ = some (.slice (some ⟨g5_2, 0, none⟩) n2p1 n2p1) := k14_4_2
          have yk14_5_0 : w14.drew.cell? ⟨w6.heap.size, 0, none⟩ = some (.int .i64 a0q0) := k14_5_0
          have yk14_5_1 : w14.drew.cell? ⟨w6.heap.size, 1, none⟩ = some (.slice A6_1q0 k1q0 c6_1q0) := k14_5_1
          have yk14_5_2 : w14.drew.cell? ⟨w6.heap.size, 2, none⟩ = some (.slice A6_2q0 k2q0 c6_2q0) := k14_5_2
          have hBz := hB14.size
          go_region_held3 (fun w' => w'.cell? ⟨w.heap.size, 0, none⟩ = some (.int .i64 a0p0) ∧ w'.cell? ⟨w.heap.size, 1, none⟩ = some (.slice (A1p0) n1p0 c1p0) ∧ w'.cell? ⟨w.heap.size, 2, none⟩ = some (.slice (A2p0) n2p0 c2p0) ∧ w'.cell? ⟨w.heap.size + 1, 0, none⟩ = some (.int .i64 a0p1) ∧ w'.cell? ⟨w.heap.size + 1, 1, none⟩ = some (.slice (A1p1) n1p1 c1p1) ∧ w'.cell? ⟨w.heap.size + 1, 2, none⟩ = some (.slice (A2p1) n2p1 c2p1) ∧ w'.cell? ⟨bW3, 0, none⟩ = some (.int .i64 a0q0) ∧ w'.cell? ⟨bW3, 1, none⟩ = some (.slice AW1q0 k1q0 cW1q0) ∧ w'.cell? ⟨bW3, 2, none⟩ = some (.slice AW2q0 k2q0 cW2q0) ∧ w'.cell? ⟨w4.heap.size, 0, none⟩ = some (.int .i64 a0p0) ∧ w'.cell? ⟨w4.heap.size, 1, none⟩ = some (.slice (some ⟨g4_1, 0, none⟩) n1p0 n1p0) ∧ w'.cell? ⟨w4.heap.size, 2, none⟩ = some (.slice (some ⟨g4_2, 0, none⟩) n2p0 n2p0) ∧ w'.cell? ⟨w5.heap.size, 0, none⟩ = some (.int .i64 a0p1) ∧ w'.cell? ⟨w5.heap.size, 1, none⟩ = some (.slice (some ⟨g5_1, 0, none⟩) n1p1 n1p1) ∧ w'.cell? ⟨w5.heap.size, 2, none⟩ = some (.slice (some ⟨g5_2, 0, none⟩) n2p1 n2p1) ∧ w'.cell? ⟨w6.heap.size, 0, none⟩ = some (.int .i64 a0q0) ∧ w'.cell? ⟨w6.heap.size, 1, none⟩ = some (.slice A6_1q0 k1q0 c6_1q0) ∧ w'.cell? ⟨w6.heap.size, 2, none⟩ = some (.slice A6_2q0 k2q0 c6_2q0)) (first | (with_reducible exact ⟨yk14_0_0, yk14_0_1, yk14_0_2, yk14_1_0, yk14_1_1, yk14_1_2, yk14_2_0, yk14_2_1, yk14_2_2, yk14_3_0, yk14_3_1, yk14_3_2, yk14_4_0, yk14_4_1, yk14_4_2, yk14_5_0, yk14_5_1, yk14_5_2⟩) | (with_reducible exact ⟨k14_0_0, k14_0_1, k14_0_2, k14_1_0, k14_1_1, k14_1_2, k14_2_0, k14_2_1, k14_2_2, k14_3_0, k14_3_1, k14_3_2, k14_4_0, k14_4_1, k14_4_2, k14_5_0, k14_5_1, k14_5_2⟩) | (go_split_ands; with_reducible exact ⟨kcl hv0 (by with_reducible assumption), kcl hv0 (by with_reducible assumption), kcl hv0 (by with_reducible assumption), kcl hv0 (by with_reducible assumption), kcl hv0 (by with_reducible assumption), kcl hv0 (by with_reducible assumption), kcl hv0 (by with_reducible assumption), kcl hv0 (by with_reducible assumption), kcl hv0 (by with_reducible assumption), kcl hv0 (by with_reducible assumption), kcl hv0 (by with_reducible assumption), kcl hv0 (by with_reducible assumption), kcl hv0 (by with_reducible assumption), kcl hv0 (by with_reducible assumption), kcl hv0 (by with_reducible assumption), kcl hv0 (by with_reducible assumption), kcl hv0 (by with_reducible assumption), kcl hv0 (by with_reducible assumption)⟩) | (go_split_ands; with_reducible exact ⟨kcl hv1 (by with_reducible assumption), kcl hv1 (by with_reducible assumption), kcl hv1 (by with_reducible assumption), kcl hv1 (by with_reducible assumption), kcl hv1 (by with_reducible assumption), kcl hv1 (by with_reducible assumption), kcl hv1 (by with_reducible assumption), kcl hv1 (by with_reducible assumption), kcl hv1 (by with_reducible assumption), kcl hv1 (by with_reducible assumption), kcl hv1 (by with_reducible assumption), kcl hv1 (by with_reducible assumption), kcl hv1 (by with_reducible assumption), kcl hv1 (by with_reducible assumption), kcl hv1 (by with_reducible assumption), kcl hv1 (by with_reducible assumption), kcl hv1 (by with_reducible assumption), kcl hv1 (by with_reducible assumption)⟩) | (go_split_ands; with_reducible exact ⟨kcl hv2 (by with_reducible assumption), kcl hv2 (by with_reducible assumption), kcl hv2 (by with_reducible assumption), kcl hv2 (by with_reducible assumption), kcl hv2 (by with_reducible assumption), kcl hv2 (by with_reducible assumption), kcl hv2 (by with_reducible assumption), kcl hv2 (by with_reducible assumption), kcl hv2 (by with_reducible assumption), kcl hv2 (by with_reducible assumption), kcl hv2 (by with_reducible assumption), kcl hv2 (by with_reducible assumption), kcl hv2 (by with_reducible assumption), kcl hv2 (by with_reducible assumption), kcl hv2 (by with_reducible assumption), kcl hv2 (by with_reducible assumption), kcl hv2 (by with_reducible assumption), kcl hv2 (by with_reducible assumption)⟩) | (go_split_ands; with_reducible exact ⟨kclAl (by with_reducible assumption), kclAl (by with_reducible assumption), kclAl (by with_reducible assumption), kclAl (by with_reducible assumption), kclAl (by with_reducible assumption), kclAl (by with_reducible assumption), kclAl (by with_reducible assumption), kclAl (by with_reducible assumption), kclAl (by with_reducible assumption), kclAl (by with_reducible assumption), kclAl (by with_reducible assumption), kclAl (by with_reducible assumption), kclAl (by with_reducible assumption), kclAl (by with_reducible assumption), kclAl (by with_reducible assumption), kclAl (by with_reducible assumption), kclAl (by with_reducible assumption), kclAl (by with_reducible assumption)⟩) | (go_split_ands; with_reducible exact ⟨kclAld (by with_reducible assumption), kclAld (by with_reducible assumption), kclAld (by with_reducible assumption), kclAld (by with_reducible assumption), kclAld (by with_reducible assumption), kclAld (by with_reducible assumption), kclAld (by with_reducible assumption), kclAld (by with_reducible assumption), kclAld (by with_reducible assumption), kclAld (by with_reducible assumption), kclAld (by with_reducible assumption), kclAld (by with_reducible assumption), kclAld (by with_reducible assumption), kclAld (by with_reducible assumption), kclAld (by with_reducible assumption), kclAld (by with_reducible assumption), kclAld (by with_reducible assumption), kclAld (by with_reducible assumption)⟩) | (go_split_ands; with_reducible exact ⟨kclRe (by omega) (by with_reducible assumption), kclRe (by omega) (by with_reducible assumption), kclRe (by omega) (by with_reducible assumption), kclRe (by omega) (by with_reducible assumption), kclRe (by omega) (by with_reducible assumption), kclRe (by omega) (by with_reducible assumption), kclRe (by omega) (by with_reducible assumption), kclRe (by omega) (by with_reducible assumption), kclRe (by omega) (by with_reducible assumption), kclRe (by omega) (by with_reducible assumption), kclRe (by omega) (by with_reducible assumption), kclRe (by omega) (by with_reducible assumption), kclRe (by omega) (by with_reducible assumption), kclRe (by omega) (by with_reducible assumption), kclRe (by omega) (by with_reducible assumption), kclRe (by omega) (by with_reducible assumption), kclRe (by omega) (by with_reducible assumption), kclRe (by omega) (by with_reducible assumption)⟩) | (go_split_ands; with_reducible exact ⟨kclS3 (by omega) (by with_reducible assumption), kclS3 (by omega) (by with_reducible assumption), kclS3 (by omega) (by with_reducible assumption), kclS3 (by omega) (by with_reducible assumption), kclS3 (by omega) (by with_reducible assumption), kclS3 (by omega) (by with_reducible assumption), kclS3 (by omega) (by with_reducible assumption), kclS3 (by omega) (by with_reducible assumption), kclS3 (by omega) (by with_reducible assumption), kclS3 (by omega) (by with_reducible assumption), kclS3 (by omega) (by with_reducible assumption), kclS3 (by omega) (by with_reducible assumption), kclS3 (by omega) (by with_reducible assumption), kclS3 (by omega) (by with_reducible assumption), kclS3 (by omega) (by with_reducible assumption), kclS3 (by omega) (by with_reducible assumption), kclS3 (by omega) (by with_reducible assumption), kclS3 (by omega) (by with_reducible assumption)⟩)) (first | (go_at_call 41; ((with_reducible refine (toTableau (xs1 := xs1p0) (xs2 := xs2p0) ?_ ?_ HN1p0.out bn1p0 HN2p0.out bn2p0).mono ?_); (exact HAA1p0.out.mono (by (repeat' (first | (with_reducible exact Below.refl _ _) | (with_reducible assumption) | (with_reducible refine Below.alloc ?_ ?_ _) | (with_reducible refine Below.drew ?_) | (with_reducible refine bdN ?_ _) | (with_reducible refine Below.setCell ?_ ?_ _) | (with_reducible refine chn ?_ (by assumption) ?_) | omega | (simp; done) | (simp; omega))))); (exact HAA2p0.out.mono (by (repeat' (first | (with_reducible exact Below.refl _ _) | (with_reducible assumption) | (with_reducible refine Below.alloc ?_ ?_ _) | (with_reducible refine Below.drew ?_) | (with_reducible refine bdN ?_ _) | (with_reducible refine Below.setCell ?_ ?_ _) | (with_reducible refine chn ?_ (by assumption) ?_) | omega | (simp; done) | (simp; omega))))); rintro ee v0 ⟨g0_1, g0_2, rfl, hK0_1, hK0_2, hg0_1, hg0_2, hv0⟩; obtain ⟨hcv0, hfv0, _⟩ := bcl hv0; have hq0 := hv0.size; (try simp only [World.size_drew, World.size_alloc] at hq0); (try have ho0_0 : w14.heap.size < v0.heap.size := (by omega)); (try have ho0_1 : v1.heap.size < v0.heap.size := (by omega)); (try have ho0_2 : v2.heap.size < v0.heap.size := (by omega)))) | (go_at_call 41; ((with_reducible refine (toTableau (xs1 := xs1p1) (xs2 := xs2p1) ?_ ?_ HN1p1.out bn1p1 HN2p1.out bn2p1).mono ?_); (exact HAA1p1.out.mono (by (repeat' (first | (with_reducible exact Below.refl _ _) | (with_reducible assumption) | (with_reducible refine Below.alloc ?_ ?_ _) | (with_reducible refine Below.drew ?_) | (with_reducible refine bdN ?_ _) | (with_reducible refine Below.setCell ?_ ?_ _) | (with_reducible refine chn ?_ (by assumption) ?_) | omega | (simp; done) | (simp; omega))))); (exact HAA2p1.out.mono (by (repeat' (first | (with_reducible exact Below.refl _ _) | (with_reducible assumption) | (with_reducible refine Below.alloc ?_ ?_ _) | (with_reducible refine Below.drew ?_) | (with_reducible refine bdN ?_ _) | (with_reducible refine Below.setCell ?_ ?_ _) | (with_reducible refine chn ?_ (by assumption) ?_) | omega | (simp; done) | (simp; omega))))); rintro ee v1 ⟨g1_1, g1_2, rfl, hK1_1, hK1_2, hg1_1, hg1_2, hv1⟩; obtain ⟨hcv1, hfv1, _⟩ := bcl hv1; have hq1 := hv1.size; (try simp only [World.size_drew, World.size_alloc] at hq1); (try have ho1_0 : w14.heap.size < v1.heap.size := (by omega)); (try have ho1_1 : v0.heap.size < v1.heap.size := (by omega)); (try have ho1_2 : v2.heap.size < v1.heap.size := (by omega)))) | (go_at_call 54; ((with_reducible refine (HI.out _ _ _ _ _ ?_ ?_ ?_ ?_).mono ?_); (exact (by exact hK0_1.rd.mono (by (repeat' (first | (with_reducible exact Below.refl _ _) | (with_reducible assumption) | (with_reducible refine Below.alloc ?_ ?_ _) | (with_reducible refine Below.drew ?_) | (with_reducible refine bdN ?_ _) | (with_reducible refine Below.setCell ?_ ?_ _) | (with_reducible refine chn ?_ (by assumption) ?_) | omega | (simp; done) | (simp; omega)))))); (exact (by exact hK0_2.rd.mono (by (repeat' (first | (with_reducible exact Below.refl _ _) | (with_reducible assumption) | (with_reducible refine Below.alloc ?_ ?_ _) | (with_reducible refine Below.drew ?_) | (with_reducible refine bdN ?_ _) | (with_reducible refine Below.setCell ?_ ?_ _) | (with_reducible refine chn ?_ (by assumption) ?_) | omega | (simp; done) | (simp; omega)))))); (exact (by exact hK1_1.rd.mono (by (repeat' (first | (with_reducible exact Below.refl _ _) | (with_reducible assumption) | (with_reducible refine Below.alloc ?_ ?_ _) | (with_reducible refine Below.drew ?_) | (with_reducible refine bdN ?_ _) | (with_reducible refine Below.setCell ?_ ?_ _) | (with_reducible refine chn ?_ (by assumption) ?_) | omega | (simp; done) | (simp; omega)))))); (exact (by exact hK1_2.rd.mono (by (repeat' (first | (with_reducible exact Below.refl _ _) | (with_reducible assumption) | (with_reducible refine Below.alloc ?_ ?_ _) | (with_reducible refine Below.drew ?_) | (with_reducible refine bdN ?_ _) | (with_reducible refine Below.setCell ?_ ?_ _) | (with_reducible refine chn ?_ (by assumption) ?_) | omega | (simp; done) | (simp; omega)))))); rintro ee v2 ⟨A8_1, c8_1, A8_2, c8_2, rfl, hO8_1, hO8_2, hNE8, hv2⟩; obtain ⟨hcv2, hfv2, _⟩ := bcl hv2; have hq2 := hv2.size; (try simp only [World.size_drew, World.size_alloc] at hq2); (try have ho2_0 : w14.heap.size < v2.heap.size := (by omega)); (try have ho2_1 : v0.heap.size < v2.heap.size := (by omega)); (try have ho2_2 : v1.heap.size < v2.heap.size := (by omega)))))
          all_goals (go_wp2_with fail; go_meet)
          all_goals go_split_ands
          all_goals ((have hR8_1 := hO8_1.rd); (have hA8_1 := hO8_1.low); (have hR8_2 := hO8_2.rd); (have hA8_2 := hO8_2.low); refine ⟨⟨_, A8_1, c8_1, A8_2, c8_2, rfl, rfl, (by first | (go_simp; done) | (simp [*]; done)), (by first | (go_simp; done) | (simp [*]; done)), (by first | (go_simp; done) | (simp [*]; done)), (by exact Rd.b (by (repeat' (first | (with_reducible assumption) | (refine Rd.far ?_ (fun a ha => by have h9 := hA8_1 a ha; (try simp only [World.size_drew, World.size_alloc] at h9); dsimp only; omega) _) | (exact hR8_1.mono (by (repeat' (first | (with_reducible exact Below.refl _ _) | (with_reducible assumption) | (with_reducible refine Below.alloc ?_ ?_ _) | (with_reducible refine Below.drew ?_) | (with_reducible refine bdN ?_ _) | (with_reducible refine Below.setCell ?_ ?_ _) | (with_reducible refine chn ?_ (by assumption) ?_) | omega | (simp; done) | (simp; omega)))))))) (Nat.le_refl _)), (by exact Rd.b (by (repeat' (first | (with_reducible assumption) | (refine Rd.far ?_ (fun a ha => by have h9 := hA8_2 a ha; (try simp only [World.size_drew, World.size_alloc] at h9); dsimp only; omega) _) | (exact hR8_2.mono (by (repeat' (first | (with_reducible exact Below.refl _ _) | (with_reducible assumption) | (with_reducible refine Below.alloc ?_ ?_ _) | (with_reducible refine Below.drew ?_) | (with_reducible refine bdN ?_ _) | (with_reducible refine Below.setCell ?_ ?_ _) | (with_reducible refine chn ?_ (by assumption) ?_) | omega | (simp; done) | (simp; omega)))))))) (Nat.le_refl _))⟩, (by with_reducible assumption), (by with_reducible assumption), (by with_reducible assumption), (by with_reducible assumption), (by with_reducible assumption), (by with_reducible assumption), (by with_reducible assumption), (by with_reducible assumption), (by with_reducible assumption), (by with_reducible assumption), (by with_reducible assumption), (by with_reducible assumption), (by with_reducible assumption), (by with_reducible assumption), (by with_reducible assumption), (by with_reducible assumption), (by with_reducible assumption), (by with_reducible assumption), (by exact HW1q014.out.mono (by (repeat' (first | (with_reducible exact Below.refl _ _) | (with_reducible assumption) | (with_reducible refine Below.alloc ?_ ?_ _) | (with_reducible refine Below.drew ?_) | (with_reducible refine bdN ?_ _) | (with_reducible refine Below.setCell ?_ ?_ _) | (with_reducible refine chn ?_ (by assumption) ?_) | omega | (simp; done) | (simp; omega))))), (by exact HW2q014.out.mono (by (repeat' (first | (with_reducible exact Below.refl _ _) | (with_reducible assumption) | (with_reducible refine Below.alloc ?_ ?_ _) | (with_reducible refine Below.drew ?_) | (with_reducible refine bdN ?_ _) | (with_reducible refine Below.setCell ?_ ?_ _) | (with_reducible refine chn ?_ (by assumption) ?_) | omega | (simp; done) | (simp; omega))))), (by exact HG1q014.out.mono (by (repeat' (first | (with_reducible exact Below.refl _ _) | (with_reducible assumption) | (with_reducible refine Below.alloc ?_ ?_ _) | (with_reducible refine Below.drew ?_) | (with_reducible refine bdN ?_ _) | (with_reducible refine Below.setCell ?_ ?_ _) | (with_reducible refine chn ?_ (by assumption) ?_) | omega | (simp; done) | (simp; omega))))), (by exact HG2q014.out.mono (by (repeat' (first | (with_reducible exact Below.refl _ _) | (with_reducible assumption) | (with_reducible refine Below.alloc ?_ ?_ _) | (with_reducible refine Below.drew ?_) | (with_reducible refine bdN ?_ _) | (with_reducible refine Below.setCell ?_ ?_ _) | (with_reducible refine chn ?_ (by assumption) ?_) | omega | (simp; done) | (simp; omega))))), (by (try simp only [World.size_alloc, World.size_drew, World.size_setCell]); omega), (by (repeat' (first | (with_reducible exact Below.refl _ _) | (with_reducible assumption) | (with_reducible refine Below.alloc ?_ ?_ _) | (with_reducible refine Below.drew ?_) | (with_reducible refine bdN ?_ _) | (with_reducible refine Below.setCell ?_ ?_ _) | (with_reducible refine chn ?_ (by assumption) ?_) | omega | (simp; done) | (simp; omega))))⟩)
        case rest =>
          obtain ⟨w15, rfl⟩ : ∃ w15, w15 = wc := ⟨_, rfl⟩
          clear k14_0_0 k14_0_1 k14_0_2 k14_1_0 k14_1_1 k14_1_2 k14_2_0 k14_2_1 k14_2_2 k14_3_0 k14_3_1 k14_3_2 k14_4_0 k14_4_1 k14_4_2 k14_5_0 k14_5_1 k14_5_2 HW1q014 HW2q014 HG1q014 HG2q014
          obtain ⟨⟨bH15, AH1q0, cH1q0, AH2q0, cH2q0, rfl, rfl, k15_6_0, k15_6_1, k15_6_2, HRH1q0, HRH2q0⟩, k15_0_0, k15_0_1, k15_0_2, k15_1_0, k15_1_1, k15_1_2, k15_2_0, k15_2_1, k15_2_2, k15_3_0, k15_3_1, k15_3_2, k15_4_0, k15_4_1, k15_4_2, k15_5_0, k15_5_1, k15_5_2, HW1q015, HW2q015, HG1q015, HG2q015, hz15, hB15⟩ := hcut
          have bl15_0 : w.heap.size < w15.heap.size := World.block_lt_of_cell? _ _ k15_0_0
          have bl15_1 : w.heap.size + 1 < w15.heap.size := World.block_lt_of_cell? _ _ k15_1_0
          have bl15_2 : bW3 < w15.heap.size := World.block_lt_of_cell? _ _ k15_2_0
          have bl15_3 : w4.heap.size < w15.heap.size := World.block_lt_of_cell? _ _ k15_3_0
          have bl15_4 : w5.heap.size < w15.heap.size := World.block_lt_of_cell? _ _ k15_4_0
          have bl15_5 : w6.heap.size < w15.heap.size := World.block_lt_of_cell? _ _ k15_5_0
          have bl15_6 : bH15 < w15.heap.size := World.block_lt_of_cell? _ _ k15_6_0
          have HH1q015 : Hid (RdB pauliE w15 w15.heap.size AH1q0 zs1q0) := HRH1q0
          clear HRH1q0
          have HH2q015 : Hid (RdB pauliE w15 w15.heap.size AH2q0 zs2q0) := HRH2q0
          clear HRH2q0
          go_wp2_with (fail)
          refine (eqTableau (xs1 := zs1q0) (xs2 := zs2q0) ?_ ?_ ?_ ?_ HZ1q0.out hk1q0 HZ2q0.out hk2q0).mono ?_
          · exact HH1q015.out.rd.mono (by (repeat' (first | (with_reducible exact Below.refl _ _) | (with_reducible assumption) | (with_reducible refine Below.alloc ?_ ?_ _) | (with_reducible refine Below.drew ?_) | (with_reducible refine bdN ?_ _) | (with_reducible refine Below.setCell ?_ ?_ _) | (with_reducible refine chn ?_ (by assumption) ?_) | omega | (simp; done) | (simp; omega))))
          · exact HH2q015.out.rd.mono (by (repeat' (first | (with_reducible exact Below.refl _ _) | (with_reducible assumption) | (with_reducible refine Below.alloc ?_ ?_ _) | (with_reducible refine Below.drew ?_) | (with_reducible refine bdN ?_ _) | (with_reducible refine Below.setCell ?_ ?_ _) | (with_reducible refine chn ?_ (by assumption) ?_) | omega | (simp; done) | (simp; omega))))
          · exact HW1q015.out.rd.mono (by (repeat' (first | (with_reducible exact Below.refl _ _) | (with_reducible assumption) | (with_reducible refine Below.alloc ?_ ?_ _) | (with_reducible refine Below.drew ?_) | (with_reducible refine bdN ?_ _) | (with_reducible refine Below.setCell ?_ ?_ _) | (with_reducible refine chn ?_ (by assumption) ?_) | omega | (simp; done) | (simp; omega))))
          · exact HW2q015.out.rd.mono (by (repeat' (first | (with_reducible exact Below.refl _ _) | (with_reducible assumption) | (with_reducible refine Below.alloc ?_ ?_ _) | (with_reducible refine Below.drew ?_) | (with_reducible refine bdN ?_ _) | (with_reducible refine Below.setCell ?_ ?_ _) | (with_reducible refine chn ?_ (by assumption) ?_) | omega | (simp; done) | (simp; omega))))
          rintro ee w16 ⟨rfl, hb16⟩
          have hL16 : Below w15.heap.size w15 w16 := by (repeat' (first | (with_reducible exact Below.refl _ _) | (with_reducible assumption) | (with_reducible refine Below.alloc ?_ ?_ _) | (with_reducible refine Below.drew ?_) | (with_reducible refine bdN ?_ _) | (with_reducible refine Below.setCell ?_ ?_ _) | (with_reducible refine chn ?_ (by assumption) ?_) | omega | (simp; done) | (simp; omega)))
          have hz16 := hb16.size
          (try simp only [World.size_alloc] at hz16)
          have hB16 : Below w.heap.size w w16 := chn hB15 hL16 hB15.size
          have k16_0_0 : w16.cell? ⟨w.heap.size, 0, none⟩ = some (.int .i64 a0p0) := (hL16.cell (p := ⟨w.heap.size, 0, none⟩) (by show w.heap.size < w15.heap.size; omega)).trans k15_0_0
          have k16_0_1 : w16.cell? ⟨w.heap.size, 1, none⟩ = some (.slice (A1p0) n1p0 c1p0) := (hL16.cell (p := ⟨w.heap.size, 1, none⟩) (by show w.heap.size < w15.heap.size; omega)).trans k15_0_1
          have k16_0_2 : w16.cell? ⟨w.heap.size, 2, none⟩ = some (.slice (A2p0) n2p0 c2p0) := (hL16.cell (p := ⟨w.heap.size, 2, none⟩) (by show w.heap.size < w15.heap.size; omega)).trans k15_0_2
          have k16_1_0 : w16.cell? ⟨w.heap.size + 1, 0, none⟩ = some (.int .i64 a0p1) := (hL16.cell (p := ⟨w.heap.size + 1, 0, none⟩) (by show w.heap.size + 1 < w15.heap.size; omega)).trans k15_1_0
          have k16_1_1 : w16.cell? ⟨w.heap.size + 1, 1, none⟩ = some (.slice (A1p1) n1p1 c1p1) := (hL16.cell (p := ⟨w.heap.size + 1, 1, none⟩) (by show w.heap.size + 1 < w15.heap.size; omega)).trans k15_1_1
          have k16_1_2 : w16.cell? ⟨w.heap.size + 1, 2, none⟩ = some (.slice (A2p1) n2p1 c2p1) := (hL16.cell (p := ⟨w.heap.size + 1, 2, none⟩) (by show w.heap.size + 1 < w15.heap.size; omega)).trans k15_1_2
          have k16_2_0 : w16.cell? ⟨bW3, 0, none⟩ = some (.int .i64 a0q0) := (hL16.cell (p := ⟨bW3, 0, none⟩) (by show bW3 < w15.heap.size; omega)).trans k15_2_0
          have k16_2_1 : w16.cell? ⟨bW3, 1, none⟩ = some (.slice AW1q0 k1q0 cW1q0) := (hL16.cell (p := ⟨bW3, 1, none⟩) (by show bW3 < w15.heap.size; omega)).trans k15_2_1
          have k16_2_2 : w16.cell? ⟨bW3, 2, none⟩ = some (.slice AW2q0 k2q0 cW2q0) := (hL16.cell (p := ⟨bW3, 2, none⟩) (by show bW3 < w15.heap.size; omega)).trans k15_2_2
          have k16_3_0 : w16.cell? ⟨w4.heap.size, 0, none⟩ = some (.int .i64 a0p0) := (hL16.cell (p := ⟨w4.heap.size, 0, none⟩) (by show w4.heap.size < w15.heap.size; omega)).trans k15_3_0
          have k16_3_1 : w16.cell? ⟨w4.heap.size, 1, none⟩ = some (.slice (some ⟨g4_1, 0, none⟩) n1p0 n1p0) := (hL16.cell (p := ⟨w4.heap.size, 1, none⟩) (by show w4.heap.size < w15.heap.size; omega)).trans k15_3_1
          have k16_3_2 : w16.cell? ⟨w4.heap.size, 2, none⟩ = some (.slice (some ⟨g4_2, 0, none⟩) n2p0 n2p0) := (hL16.cell (p := ⟨w4.heap.size, 2, none⟩) (by show w4.heap.size < w15.heap.size; omega)).trans k15_3_2
          have k16_4_0 : w16.cell? ⟨w5.heap.size, 0, none⟩ = some (.int .i64 a0p1) := (hL16.cell (p := ⟨w5.heap.size, 0, none⟩) (by show w5.heap.size < w15.heap.size; omega)).trans k15_4_0
          have k16_4_1 : w16.cell? ⟨w5.heap.size, 1, none⟩ = some (.slice (some ⟨g5_1, 0, none⟩) n1p1 n1p1) := (hL16.cell (p := ⟨w5.heap.size, 1, none⟩) (by show w5.heap.size < w15.heap.size; omega)).trans k15_4_1
          have k16_4_2 : w16.cell? ⟨w5.heap.size, 2, none⟩ = some (.slice (some ⟨g5_2, 0, none⟩) n2p1 n2p1) := (hL16.cell (p := ⟨w5.heap.size, 2, none⟩) (by show w5.heap.size < w15.heap.size; omega)).trans k15_4_2
          have k16_5_0 : w16.cell? ⟨w6.heap.size, 0, none⟩ = some (.int .i64 a0q0) := (hL16.cell (p := ⟨w6.heap.size, 0, none⟩) (by show w6.heap.size < w15.heap.size; omega)).trans k15_5_0
          have k16_5_1 : w16.cell? ⟨w6.heap.size, 1, none⟩ = some (.slice A6_1q0 k1q0 c6_1q0) := (hL16.cell (p := ⟨w6.heap.size, 1, none⟩) (by show w6.heap.size < w15.heap.size; omega)).trans k15_5_1
          have k16_5_2 : w16.cell? ⟨w6.heap.size, 2, none⟩ = some (.slice A6_2q0 k2q0 c6_2q0) := (hL16.cell (p := ⟨w6.heap.size, 2, none⟩) (by show w6.heap.size < w15.heap.size; omega)).trans k15_5_2
          have k16_6_0 : w16.cell? ⟨bH15, 0, none⟩ = some (.int .i64 a0q0) := (hL16.cell (p := ⟨bH15, 0, none⟩) (by show bH15 < w15.heap.size; omega)).trans k15_6_0
          have k16_6_1 : w16.cell? ⟨bH15, 1, none⟩ = some (.slice AH1q0 k1q0 cH1q0) := (hL16.cell (p := ⟨bH15, 1, none⟩) (by show bH15 < w15.heap.size; omega)).trans k15_6_1
          have k16_6_2 : w16.cell? ⟨bH15, 2, none⟩ = some (.slice AH2q0 k2q0 cH2q0) := (hL16.cell (p := ⟨bH15, 2, none⟩) (by show bH15 < w15.heap.size; omega)).trans k15_6_2
          have bl16_0 : w.heap.size < w16.heap.size := World.block_lt_of_cell? _ _ k16_0_0
          have bl16_1 : w.heap.size + 1 < w16.heap.size := World.block_lt_of_cell? _ _ k16_1_0
          have bl16_2 : bW3 < w16.heap.size := World.block_lt_of_cell? _ _ k16_2_0
          have bl16_3 : w4.heap.size < w16.heap.size := World.block_lt_of_cell? _ _ k16_3_0
          have bl16_4 : w5.heap.size < w16.heap.size := World.block_lt_of_cell? _ _ k16_4_0
          have bl16_5 : w6.heap.size < w16.heap.size := World.block_lt_of_cell? _ _ k16_5_0
          have bl16_6 : bH15 < w16.heap.size := World.block_lt_of_cell? _ _ k16_6_0
          have HW1q016 := lay (HW1q015.out.mono hL16)
          have HW2q016 := lay (HW2q015.out.mono hL16)
          have HG1q016 := lay (HG1q015.out.mono hL16)
          have HG2q016 := lay (HG2q015.out.mono hL16)
          have HH1q016 := lay (HH1q015.out.mono hL16)
          have HH2q016 := lay (HH2q015.out.mono hL16)
          clear hb16 hL16
          clear k15_0_0 k15_0_1 k15_0_2 k15_1_0 k15_1_1 k15_1_2 k15_2_0 k15_2_1 k15_2_2 k15_3_0 k15_3_1 k15_3_2 k15_4_0 k15_4_1 k15_4_2 k15_5_0 k15_5_1 k15_5_2 k15_6_0 k15_6_1 k15_6_2 HW1q015 HW2q015 HG1q015 HG2q015 HH1q015 HH2q015
          go_wp2_with (fail)
          refine (heldTableau ?_ ?_ hk1q0 hk2q0 (by decide) (by decide)).mono ?_
          · exact HG1q016.out.rd.mono (by (repeat' (first | (with_reducible exact Below.refl _ _) | (with_reducible assumption) | (with_reducible refine Below.alloc ?_ ?_ _) | (with_reducible refine Below.drew ?_) | (with_reducible refine bdN ?_ _) | (with_reducible refine Below.setCell ?_ ?_ _) | (with_reducible refine chn ?_ (by assumption) ?_) | omega | (simp; done) | (simp; omega))))
          · exact HG2q016.out.rd.mono (by (repeat' (first | (with_reducible exact Below.refl _ _) | (with_reducible assumption) | (with_reducible refine Below.alloc ?_ ?_ _) | (with_reducible refine Below.drew ?_) | (with_reducible refine bdN ?_ _) | (with_reducible refine Below.setCell ?_ ?_ _) | (with_reducible refine chn ?_ (by assumption) ?_) | omega | (simp; done) | (simp; omega))))
          rintro ee w17 ⟨rfl, hb17⟩
          have hL17 : Below w16.heap.size w16 w17 := by (repeat' (first | (with_reducible exact Below.refl _ _) | (with_reducible assumption) | (with_reducible refine Below.alloc ?_ ?_ _) | (with_reducible refine Below.drew ?_) | (with_reducible refine bdN ?_ _) | (with_reducible refine Below.setCell ?_ ?_ _) | (with_reducible refine chn ?_ (by assumption) ?_) | omega | (simp; done) | (simp; omega)))
          have hz17 := hb17.size
          (try simp only [World.size_alloc] at hz17)
          have hB17 : Below w.heap.size w w17 := chn hB16 hL17 hB16.size
          have k17_0_0 : w17.cell? ⟨w.heap.size, 0, none⟩ = some (.int .i64 a0p0) := (hL17.cell (p := ⟨w.heap.size, 0, none⟩) (by show w.heap.size < w16.heap.size; omega)).trans k16_0_0
          have k17_0_1 : w17.cell? ⟨w.heap.size, 1, none⟩ = some (.slice (A1p0) n1p0 c1p0) := (hL17.cell (p := ⟨w.heap.size, 1, none⟩) (by show w.heap.size < w16.heap.size; omega)).trans k16_0_1
          have k17_0_2 : w17.cell? ⟨w.heap.size, 2, none⟩ = some (.slice (A2p0) n2p0 c2p0) := (hL17.cell (p := ⟨w.heap.size, 2, none⟩) (by show w.heap.size < w16.heap.size; omega)).trans k16_0_2
          have k17_1_0 : w17.cell? ⟨w.heap.size + 1, 0, none⟩ = some (.int .i64 a0p1) := (hL17.cell (p := ⟨w.heap.size + 1, 0, none⟩) (by show w.heap.size + 1 < w16.heap.size; omega)).trans k16_1_0
          have k17_1_1 : w17.cell? ⟨w.heap.size + 1, 1, none⟩ = some (.slice (A1p1) n1p1 c1p1) := (hL17.cell (p := ⟨w.heap.size + 1, 1, none⟩) (by show w.heap.size + 1 < w16.heap.size; omega)).trans k16_1_1
          have k17_1_2 : w17.cell? ⟨w.heap.size + 1, 2, none⟩ = some (.slice (A2p1) n2p1 c2p1) := (hL17.cell (p := ⟨w.heap.size + 1, 2, none⟩) (by show w.heap.size + 1 < w16.heap.size; omega)).trans k16_1_2
          have k17_2_0 : w17.cell? ⟨bW3, 0, none⟩ = some (.int .i64 a0q0) := (hL17.cell (p := ⟨bW3, 0, none⟩) (by show bW3 < w16.heap.size; omega)).trans k16_2_0
          have k17_2_1 : w17.cell? ⟨bW3, 1, none⟩ = some (.slice AW1q0 k1q0 cW1q0) := (hL17.cell (p := ⟨bW3, 1, none⟩) (by show bW3 < w16.heap.size; omega)).trans k16_2_1
          have k17_2_2 : w17.cell? ⟨bW3, 2, none⟩ = some (.slice AW2q0 k2q0 cW2q0) := (hL17.cell (p := ⟨bW3, 2, none⟩) (by show bW3 < w16.heap.size; omega)).trans k16_2_2
          have k17_3_0 : w17.cell? ⟨w4.heap.size, 0, none⟩ = some (.int .i64 a0p0) := (hL17.cell (p := ⟨w4.heap.size, 0, none⟩) (by show w4.heap.size < w16.heap.size; omega)).trans k16_3_0
          have k17_3_1 : w17.cell? ⟨w4.heap.size, 1, none⟩ = some (.slice (some ⟨g4_1, 0, none⟩) n1p0 n1p0) := (hL17.cell (p := ⟨w4.heap.size, 1, none⟩) (by show w4.heap.size < w16.heap.size; omega)).trans k16_3_1
          have k17_3_2 : w17.cell? ⟨w4.heap.size, 2, none⟩ = some (.slice (some ⟨g4_2, 0, none⟩) n2p0 n2p0) := (hL17.cell (p := ⟨w4.heap.size, 2, none⟩) (by show w4.heap.size < w16.heap.size; omega)).trans k16_3_2
          have k17_4_0 : w17.cell? ⟨w5.heap.size, 0, none⟩ = some (.int .i64 a0p1) := (hL17.cell (p := ⟨w5.heap.size, 0, none⟩) (by show w5.heap.size < w16.heap.size; omega)).trans k16_4_0
          have k17_4_1 : w17.cell? ⟨w5.heap.size, 1, none⟩ = some (.slice (some ⟨g5_1, 0, none⟩) n1p1 n1p1) := (hL17.cell (p := ⟨w5.heap.size, 1, none⟩) (by show w5.heap.size < w16.heap.size; omega)).trans k16_4_1
          have k17_4_2 : w17.cell? ⟨w5.heap.size, 2, none⟩ = some (.slice (some ⟨g5_2, 0, none⟩) n2p1 n2p1) := (hL17.cell (p := ⟨w5.heap.size, 2, none⟩) (by show w5.heap.size < w16.heap.size; omega)).trans k16_4_2
          have k17_5_0 : w17.cell? ⟨w6.heap.size, 0, none⟩ = some (.int .i64 a0q0) := (hL17.cell (p := ⟨w6.heap.size, 0, none⟩) (by show w6.heap.size < w16.heap.size; omega)).trans k16_5_0
          have k17_5_1 : w17.cell? ⟨w6.heap.size, 1, none⟩ = some (.slice A6_1q0 k1q0 c6_1q0) := (hL17.cell (p := ⟨w6.heap.size, 1, none⟩) (by show w6.heap.size < w16.heap.size; omega)).trans k16_5_1
          have k17_5_2 : w17.cell? ⟨w6.heap.size, 2, none⟩ = some (.slice A6_2q0 k2q0 c6_2q0) := (hL17.cell (p := ⟨w6.heap.size, 2, none⟩) (by show w6.heap.size < w16.heap.size; omega)).trans k16_5_2
          have k17_6_0 : w17.cell? ⟨bH15, 0, none⟩ = some (.int .i64 a0q0) := (hL17.cell (p := ⟨bH15, 0, none⟩) (by show bH15 < w16.heap.size; omega)).trans k16_6_0
          have k17_6_1 : w17.cell? ⟨bH15, 1, none⟩ = some (.slice AH1q0 k1q0 cH1q0) := (hL17.cell (p := ⟨bH15, 1, none⟩) (by show bH15 < w16.heap.size; omega)).trans k16_6_1
          have k17_6_2 : w17.cell? ⟨bH15, 2, none⟩ = some (.slice AH2q0 k2q0 cH2q0) := (hL17.cell (p := ⟨bH15, 2, none⟩) (by show bH15 < w16.heap.size; omega)).trans k16_6_2
          have bl17_0 : w.heap.size < w17.heap.size := World.block_lt_of_cell? _ _ k17_0_0
          have bl17_1 : w.heap.size + 1 < w17.heap.size := World.block_lt_of_cell? _ _ k17_1_0
          have bl17_2 : bW3 < w17.heap.size := World.block_lt_of_cell? _ _ k17_2_0
          have bl17_3 : w4.heap.size < w17.heap.size := World.block_lt_of_cell? _ _ k17_3_0
          have bl17_4 : w5.heap.size < w17.heap.size := World.block_lt_of_cell? _ _ k17_4_0
          have bl17_5 : w6.heap.size < w17.heap.size := World.block_lt_of_cell? _ _ k17_5_0
          have bl17_6 : bH15 < w17.heap.size := World.block_lt_of_cell? _ _ k17_6_0
          have HW1q017 := lay (HW1q016.out.mono hL17)
          have HW2q017 := lay (HW2q016.out.mono hL17)
          have HG1q017 := lay (HG1q016.out.mono hL17)
          have HG2q017 := lay (HG2q016.out.mono hL17)
          have HH1q017 := lay (HH1q016.out.mono hL17)
          have HH2q017 := lay (HH2q016.out.mono hL17)
          clear hb17 hL17
          clear k16_0_0 k16_0_1 k16_0_2 k16_1_0 k16_1_1 k16_1_2 k16_2_0 k16_2_1 k16_2_2 k16_3_0 k16_3_1 k16_3_2 k16_4_0 k16_4_1 k16_4_2 k16_5_0 k16_5_1 k16_5_2 k16_6_0 k16_6_1 k16_6_2 HW1q016 HW2q016 HG1q016 HG2q016 HH1q016 HH2q016
          go_wp2_with (fail)
          go_ret
          exact ⟨rfl, hB17⟩

theorem fnExactComposeTableaux_walk {a0p0 : Int} {A1p0 : Option Addr} {n1p0 c1p0 : Nat} {A2p0 : Option Addr} {n2p0 c2p0 : Nat} {xs1p0 : List PauliV} {xs2p0 : List PauliV} {a0p1 : Int} {A1p1 : Option Addr} {n1p1 c1p1 : Nat} {A2p1 : Option Addr} {n2p1 c2p1 : Nat} {xs1p1 : List PauliV} {xs2p1 : List PauliV} {w : World} (hA1p0 : Rd pauliE w A1p0 xs1p0) (hn1p0 : xs1p0.length = n1p0) (hm1p0 : n1p0 ≤ maxLen) (hA2p0 : Rd pauliE w A2p0 xs2p0) (hn2p0 : xs2p0.length = n2p0) (hm2p0 : n2p0 ≤ maxLen) (hA1p1 : Rd pauliE w A1p1 xs1p1) (hn1p1 : xs1p1.length = n1p1) (hm1p1 : n1p1 ≤ maxLen) (hA2p1 : Rd pauliE w A2p1 xs2p1) (hn2p1 : xs2p1.length = n2p1) (hm2p1 : n2p1 ≤ maxLen) :
    Calls Try.prog 14 #[(tableauV a0p0 A1p0 n1p0 c1p0 A2p0 n2p0 c2p0), (tableauV a0p1 A1p1 n1p1 c1p1 A2p1 n2p1 c2p1)] w fun ee w' => ee = .returned (.bool true) ∧ Below w.heap.size w w' := by
  by_cases hb0 : (n1p0 : Int) + (n2p0 : Int) ≤ 1048576
  · skip
    by_cases hb1 : (n1p1 : Int) + (n2p1 : Int) ≤ 1048576 - (n1p0 : Int) - (n2p0 : Int)
    · skip
      by_cases hf : TOk a0p0 n1p0 n2p0 xs1p0 xs2p0 ∧ TOk a0p1 n1p1 n2p1 xs1p1 xs2p1 ∧ a0p0 = a0p1
      · obtain ⟨h1, h2, h3⟩ := hf
        obtain ⟨n, e0, e1, e2, q1, q5⟩ := TOk_nat h1
        obtain ⟨n', f0, f1, f2, -, -⟩ := TOk_nat h2
        obtain rfl : n' = n := by omega
        subst e0 f0
        obtain rfl : n1p0 = n2p0 := by omega
        obtain rfl : n1p1 = n1p0 := by omega
        obtain rfl : n2p1 = n1p1 := by omega
        obtain rfl : n' = n2p1 := by omega
        exact lwComposeTableaux (a0q0 := (n' : Int)) (k1q0 := n') (zs1q0 := tab n' (thF n' xs1p1 xs2p1 xs1p0)) (k2q0 := n') (zs2q0 := tab n' (thF n' xs1p1 xs2p1 xs2p0)) (r1 := true) (fun g h p q w hA hB hC hD => cz_s_t q1 q5 h1 h2 hA hB hC hD hn1p0 hn2p0 hn1p1 hn2p1) (fun g h p q w hA hB hC hD => cz_i_t q1 q5 h1 h2 hA hB hC hD hn1p0 hn2p0 hn1p1 hn2p1) (tab_len _ _) (by omega) (tab_len _ _) (by omega) hA1p0 hn1p0 (by omega) hA2p0 hn2p0 (by omega) hA1p1 hn1p1 (by omega) hA2p1 hn2p1 (by omega)
      · exact lwComposeTableaux (a0q0 := 0) (k1q0 := 0) (zs1q0 := []) (k2q0 := 0) (zs2q0 := []) (r1 := false) (fun g h p q w hA hB hC hD => (cz_s_f hf hA hB hC hD hn1p0 hn2p0 hn1p1 hn2p1 hm1p0 hm2p0 hm1p1 hm2p1).mono fun ee w' h => ⟨none, 0, none, 0, h.1, ⟨Rd.nil _ _, fun a ha => by cases ha⟩, ⟨Rd.nil _ _, fun a ha => by cases ha⟩, h.2⟩) (fun g h p q w hA hB hC hD => (cz_i_f hf hA hB hC hD hn1p0 hn2p0 hn1p1 hn2p1 hm1p0 hm2p0 hm1p1 hm2p1).mono fun ee w' h => ⟨none, 0, none, 0, h.1, Ow.none, Ow.none, (fun r h => by cases h), h.2⟩) rfl (by omega) rfl (by omega) hA1p0 hn1p0 (by omega) hA2p0 hn2p0 (by omega) hA1p1 hn1p1 (by omega) hA2p1 hn2p1 (by omega)
    · exact bigComposeTableaux1 hb0 (by omega) hm1p1 hm2p1
  · exact bigComposeTableaux0  (by omega) hm1p0 hm2p0

end Go.Proofs.Ytgcligmpdlffoaa.C4
