/- ImageOf: the walk of the law; the law at all arguments. -/
import Derived.Test.YtgcligmpdlffoaaPio
import Derived.Deep.RegionHeld3
import Derived.Deep.DeepCutAuto
namespace Go.Proofs.Ytgcligmpdlffoaa.C4
open Go.RowKit
set_option linter.unusedVariables false
set_option linter.unusedSimpArgs false
attribute [local irreducible] World.setCell

set_option maxRecDepth 100000 in
set_option maxHeartbeats 4000000 in
theorem bigImageOf0 {a0p0 : Int} {A1p0 : Option Addr} {n1p0 c1p0 : Nat} {A2p0 : Option Addr} {n2p0 c2p0 : Nat} {x1 : PauliV} {w : World} (hb : 1048576 < (n1p0 : Int) + (n2p0 : Int)) (hmn1p0 : n1p0 ≤ maxLen) (hmn2p0 : n2p0 ≤ maxLen) :
    Calls Try.prog 13 #[(tableauV a0p0 A1p0 n1p0 c1p0 A2p0 n2p0 c2p0), x1.v] w fun ee w' => ee = .returned (.bool true) ∧ Below w.heap.size w w' := by
  have hb0 : 1048576 < (n1p0 : Int) + (n2p0 : Int) := by omega
  have hb1 : 1048576 ≤ (1048576 : Int) := by omega
  have hb2 : (0 : Int) ≤ 1048576 := by omega
  go_enter Try.func13, Try.ntmps13
  go_wp2_with (fail)
  refine (szTableau_f hb0 hb1 hb2 hmn1p0 hmn2p0).mono ?_
  rintro ee v ⟨rfl, hv⟩
  go_wp2_with (fail)
  go_ret
  refine ⟨rfl, ?_⟩
  (repeat' (first | (with_reducible exact Below.refl _ _) | (with_reducible assumption) | (with_reducible refine Below.alloc ?_ ?_ _) | (with_reducible refine Below.drew ?_) | (with_reducible refine bdN ?_ _) | (with_reducible refine Below.setCell ?_ ?_ _) | (with_reducible refine chn ?_ (by assumption) ?_) | omega | (simp; done) | (simp; omega)))

set_option maxRecDepth 100000 in
set_option maxHeartbeats 16000000 in
theorem lwImageOf {a0p0 : Int} {A1p0 : Option Addr} {n1p0 c1p0 : Nat} {A2p0 : Option Addr} {n2p0 c2p0 : Nat} {xs1p0 : List PauliV} {xs2p0 : List PauliV} {x1 : PauliV} {y0 : PauliV} {r1 : Bool} {w : World} (hS : ∀ (g1p0 g2p0 : Nat) (w : World), Rd pauliE w (some ⟨g1p0, 0, none⟩) xs1p0 → Rd pauliE w (some ⟨g2p0, 0, none⟩) xs2p0 → Calls Try.prog 51 #[tableauV a0p0 (some ⟨g1p0, 0, none⟩) n1p0 n1p0 (some ⟨g2p0, 0, none⟩) n2p0 n2p0, x1.v] w fun ee w' => ee = .returned (.tuple #[y0.v, .bool r1]) ∧ Below w.heap.size w w') (hI : ∀ (g1p0 g2p0 : Nat) (w : World), Rd pauliE w (some ⟨g1p0, 0, none⟩) xs1p0 → Rd pauliE w (some ⟨g2p0, 0, none⟩) xs2p0 → Calls Try.prog 52 #[tableauV a0p0 (some ⟨g1p0, 0, none⟩) n1p0 n1p0 (some ⟨g2p0, 0, none⟩) n2p0 n2p0, x1.v] w fun ee w' => ee = .returned (.tuple #[y0.v, .bool r1]) ∧ Below w.heap.size w w') (hA1p0 : Rd pauliE w A1p0 xs1p0) (hn1p0 : xs1p0.length = n1p0) (hb1p0 : (n1p0 : Int) ≤ 1048576) (hA2p0 : Rd pauliE w A2p0 xs2p0) (hn2p0 : xs2p0.length = n2p0) (hb2p0 : (n2p0 : Int) ≤ 1048576 - (n1p0 : Int)) :
    Calls Try.prog 13 #[(tableauV a0p0 A1p0 n1p0 c1p0 A2p0 n2p0 c2p0), x1.v] w fun ee w' => ee = .returned (.bool true) ∧ Below w.heap.size w w' := by
  have HAA1p0 := lay hA1p0
  have HN1p0 := lay hn1p0
  have HAA2p0 := lay hA2p0
  have HN2p0 := lay hn2p0
  have HS := lay hS
  have HI := lay hI
  have u0 : ¬ (1048576 - (n1p0 : Int) < 0) := by omega
  have v0 : 0 ≤ 1048576 - (n1p0 : Int) := by omega
  have s0 : (n1p0 : Int) ≤ 1048576 := by omega
  have t0 : 1048576 ≤ (1048576 : Int) := by omega
  have bn1p0 : n1p0 ≤ 1048576 := by omega
  have u1 : ¬ (1048576 - (n1p0 : Int) - (n2p0 : Int) < 0) := by omega
  have v1 : 0 ≤ 1048576 - (n1p0 : Int) - (n2p0 : Int) := by omega
  have s1 : (n2p0 : Int) ≤ 1048576 - (n1p0 : Int) := by omega
  have t1 : 1048576 - (n1p0 : Int) ≤ (1048576 : Int) := by omega
  have bn2p0 : n2p0 ≤ 1048576 := by omega
  have um0 : ¬ (1 + 3 * (n1p0 : Int) < 0) := by omega
  have vm0 : 0 ≤ 1 + 3 * (n1p0 : Int) := by omega
  have wm0 : 1 + 3 * (n1p0 : Int) ≤ 100000000 := by omega
  have um1 : ¬ (1 + 3 * (n1p0 : Int) + 3 * (n2p0 : Int) < 0) := by omega
  have vm1 : 0 ≤ 1 + 3 * (n1p0 : Int) + 3 * (n2p0 : Int) := by omega
  have wm1 : 1 + 3 * (n1p0 : Int) + 3 * (n2p0 : Int) ≤ 100000000 := by omega
  clear hS hI hA1p0 hn1p0 hA2p0 hn2p0
  go_enter Try.func13, Try.ntmps13
  go_wp2_with (fail)
  refine (szTableau_t s0 s1 t0).mono ?_
  rintro ee w1 ⟨rfl, hb1⟩
  have hL1 : Below w.heap.size w w1 := by (repeat' (first | (with_reducible exact Below.refl _ _) | (with_reducible assumption) | (with_reducible refine Below.alloc ?_ ?_ _) | (with_reducible refine Below.drew ?_) | (with_reducible refine bdN ?_ _) | (with_reducible refine Below.setCell ?_ ?_ _) | (with_reducible refine chn ?_ (by assumption) ?_) | omega | (simp; done) | (simp; omega)))
  have hz1 := hb1.size
  (try simp only [World.size_alloc] at hz1)
  have hB1 : Below w.heap.size w w1 := hL1
  have k1_0_0 : w1.cell? ⟨w.heap.size, 0, none⟩ = some (.int .i64 a0p0) := (hb1.cell (p := ⟨w.heap.size, 0, none⟩) (by show w.heap.size < _; (try simp only [World.size_alloc]); omega)).trans (by first | rfl | (simp; done) | (simp [*]; done))
  have k1_0_1 : w1.cell? ⟨w.heap.size, 1, none⟩ = some (.slice (A1p0) n1p0 c1p0) := (hb1.cell (p := ⟨w.heap.size, 1, none⟩) (by show w.heap.size < _; (try simp only [World.size_alloc]); omega)).trans (by first | rfl | (simp; done) | (simp [*]; done))
  have k1_0_2 : w1.cell? ⟨w.heap.size, 2, none⟩ = some (.slice (A2p0) n2p0 c2p0) := (hb1.cell (p := ⟨w.heap.size, 2, none⟩) (by show w.heap.size < _; (try simp only [World.size_alloc]); omega)).trans (by first | rfl | (simp; done) | (simp [*]; done))
  have k1_1_0 : w1.cell? ⟨w.heap.size + 1, 0, none⟩ = some (.int .i64 x1.f0) := (hb1.cell (p := ⟨w.heap.size + 1, 0, none⟩) (by show w.heap.size + 1 < _; (try simp only [World.size_alloc]); omega)).trans (by first | rfl | (simp; done) | (simp [*]; done))
  have k1_1_1 : w1.cell? ⟨w.heap.size + 1, 1, none⟩ = some (.int .i64 x1.f1) := (hb1.cell (p := ⟨w.heap.size + 1, 1, none⟩) (by show w.heap.size + 1 < _; (try simp only [World.size_alloc]); omega)).trans (by first | rfl | (simp; done) | (simp [*]; done))
  have k1_1_2 : w1.cell? ⟨w.heap.size + 1, 2, none⟩ = some (.int .i64 x1.f2) := (hb1.cell (p := ⟨w.heap.size + 1, 2, none⟩) (by show w.heap.size + 1 < _; (try simp only [World.size_alloc]); omega)).trans (by first | rfl | (simp; done) | (simp [*]; done))
  have bl1_0 : w.heap.size < w1.heap.size := World.block_lt_of_cell? _ _ k1_0_0
  have bl1_1 : w.heap.size + 1 < w1.heap.size := World.block_lt_of_cell? _ _ k1_1_0
  clear hb1 hL1
  go_wp2_with (fail)
  go_cut [6, 7] (fun s6 s7 wx => (∃ b : Nat, s6 = .pointer (some ⟨b, 0, none⟩) ∧ s7 = .bool r1 ∧ wx.cell? ⟨b, 0, none⟩ = some (.int .i64 y0.f0) ∧ wx.cell? ⟨b, 1, none⟩ = some (.int .i64 y0.f1) ∧ wx.cell? ⟨b, 2, none⟩ = some (.int .i64 y0.f2)) ∧ (wx.cell? ⟨w.heap.size, 0, none⟩ = some (.int .i64 a0p0) ∧ wx.cell? ⟨w.heap.size, 1, none⟩ = some (.slice (A1p0) n1p0 c1p0) ∧ wx.cell? ⟨w.heap.size, 2, none⟩ = some (.slice (A2p0) n2p0 c2p0) ∧ wx.cell? ⟨w.heap.size + 1, 0, none⟩ = some (.int .i64 x1.f0) ∧ wx.cell? ⟨w.heap.size + 1, 1, none⟩ = some (.int .i64 x1.f1) ∧ wx.cell? ⟨w.heap.size + 1, 2, none⟩ = some (.int .i64 x1.f2) ∧ w1.heap.size ≤ wx.heap.size ∧ Below w.heap.size w wx))
  case first =>
    have yk1_0_0 : w1.drew.cell? ⟨w.heap.size, 0, none⟩ = some (.int .i64 a0p0) := k1_0_0
    have yk1_0_1 : w1.drew.cell? ⟨w.heap.size, 1, none⟩ = some (.slice (A1p0) n1p0 c1p0) := k1_0_1
    have yk1_0_2 : w1.drew.cell? ⟨w.heap.size, 2, none⟩ = some (.slice (A2p0) n2p0 c2p0) := k1_0_2
    have yk1_1_0 : w1.drew.cell? ⟨w.heap.size + 1, 0, none⟩ = some (.int .i64 x1.f0) := k1_1_0
    have yk1_1_1 : w1.drew.cell? ⟨w.heap.size + 1, 1, none⟩ = some (.int .i64 x1.f1) := k1_1_1
    have yk1_1_2 : w1.drew.cell? ⟨w.heap.size + 1, 2, none⟩ = some (.int .i64 x1.f2) := k1_1_2
    have hBz := hB1.size
    go_region_held3 (fun w' => w'.cell? ⟨w.heap.size, 0, none⟩ = some (.int .i64 a0p0) ∧ w'.cell? ⟨w.heap.size, 1, none⟩ = some (.slice (A1p0) n1p0 c1p0) ∧ w'.cell? ⟨w.heap.size, 2, none⟩ = some (.slice (A2p0) n2p0 c2p0) ∧ w'.cell? ⟨w.heap.size + 1, 0, none⟩ = some (.int .i64 x1.f0) ∧ w'.cell? ⟨w.heap.size + 1, 1, none⟩ = some (.int .i64 x1.f1) ∧ w'.cell? ⟨w.heap.size + 1, 2, none⟩ = some (.int .i64 x1.f2)) (first | (with_reducible exact ⟨yk1_0_0, yk1_0_1, yk1_0_2, yk1_1_0, yk1_1_1, yk1_1_2⟩) | (with_reducible exact ⟨k1_0_0, k1_0_1, k1_0_2, k1_1_0, k1_1_1, k1_1_2⟩) | (go_split_ands; with_reducible exact ⟨kcl hv0 (by with_reducible assumption), kcl hv0 (by with_reducible assumption), kcl hv0 (by with_reducible assumption), kcl hv0 (by with_reducible assumption), kcl hv0 (by with_reducible assumption), kcl hv0 (by with_reducible assumption)⟩) | (go_split_ands; with_reducible exact ⟨kcl hv1 (by with_reducible assumption), kcl hv1 (by with_reducible assumption), kcl hv1 (by with_reducible assumption), kcl hv1 (by with_reducible assumption), kcl hv1 (by with_reducible assumption), kcl hv1 (by with_reducible assumption)⟩) | (go_split_ands; with_reducible exact ⟨kcl hv2 (by with_reducible assumption), kcl hv2 (by with_reducible assumption), kcl hv2 (by with_reducible assumption), kcl hv2 (by with_reducible assumption), kcl hv2 (by with_reducible assumption), kcl hv2 (by with_reducible assumption)⟩) | (go_split_ands; with_reducible exact ⟨kclAl (by with_reducible assumption), kclAl (by with_reducible assumption), kclAl (by with_reducible assumption), kclAl (by with_reducible assumption), kclAl (by with_reducible assumption), kclAl (by with_reducible assumption)⟩) | (go_split_ands; with_reducible exact ⟨kclAld (by with_reducible assumption), kclAld (by with_reducible assumption), kclAld (by with_reducible assumption), kclAld (by with_reducible assumption), kclAld (by with_reducible assumption), kclAld (by with_reducible assumption)⟩) | (go_split_ands; with_reducible exact ⟨kclRe (by omega) (by with_reducible assumption), kclRe (by omega) (by with_reducible assumption), kclRe (by omega) (by with_reducible assumption), kclRe (by omega) (by with_reducible assumption), kclRe (by omega) (by with_reducible assumption), kclRe (by omega) (by with_reducible assumption)⟩) | (go_split_ands; with_reducible exact ⟨kclS3 (by omega) (by with_reducible assumption), kclS3 (by omega) (by with_reducible assumption), kclS3 (by omega) (by with_reducible assumption), kclS3 (by omega) (by with_reducible assumption), kclS3 (by omega) (by with_reducible assumption), kclS3 (by omega) (by with_reducible assumption)⟩)) (first | (go_at_call 41; ((with_reducible refine (toTableau (xs1 := xs1p0) (xs2 := xs2p0) ?_ ?_ HN1p0.out bn1p0 HN2p0.out bn2p0).mono ?_); (exact HAA1p0.out.mono (by (repeat' (first | (with_reducible exact Below.refl _ _) | (with_reducible assumption) | (with_reducible refine Below.alloc ?_ ?_ _) | (with_reducible refine Below.drew ?_) | (with_reducible refine bdN ?_ _) | (with_reducible refine Below.setCell ?_ ?_ _) | (with_reducible refine chn ?_ (by assumption) ?_) | omega | (simp; done) | (simp; omega))))); (exact HAA2p0.out.mono (by (repeat' (first | (with_reducible exact Below.refl _ _) | (with_reducible assumption) | (with_reducible refine Below.alloc ?_ ?_ _) | (with_reducible refine Below.drew ?_) | (with_reducible refine bdN ?_ _) | (with_reducible refine Below.setCell ?_ ?_ _) | (with_reducible refine chn ?_ (by assumption) ?_) | omega | (simp; done) | (simp; omega))))); rintro ee v0 ⟨g0_1, g0_2, rfl, hK0_1, hK0_2, hg0_1, hg0_2, hv0⟩; obtain ⟨hcv0, hfv0, _⟩ := bcl hv0; have hq0 := hv0.size; (try simp only [World.size_drew, World.size_alloc] at hq0); (try have ho0_0 : w1.heap.size < v0.heap.size := (by omega)); (try have ho0_1 : v1.heap.size < v0.heap.size := (by omega)); (try have ho0_2 : v2.heap.size < v0.heap.size := (by omega)))) | (go_at_call 27; ((with_reducible refine (toPauli x1 _).mono ?_); rintro ee v1 ⟨rfl, hv1⟩; obtain ⟨hcv1, hfv1, _⟩ := bcl hv1; have hq1 := hv1.size; (try simp only [World.size_drew, World.size_alloc] at hq1); (try have ho1_0 : w1.heap.size < v1.heap.size := (by omega)); (try have ho1_1 : v0.heap.size < v1.heap.size := (by omega)); (try have ho1_2 : v2.heap.size < v1.heap.size := (by omega)))) | (go_at_call 51; ((with_reducible refine (HS.out _ _ _ ?_ ?_).mono ?_); (exact (by exact hK0_1.rd.mono (by (repeat' (first | (with_reducible exact Below.refl _ _) | (with_reducible assumption) | (with_reducible refine Below.alloc ?_ ?_ _) | (with_reducible refine Below.drew ?_) | (with_reducible refine bdN ?_ _) | (with_reducible refine Below.setCell ?_ ?_ _) | (with_reducible refine chn ?_ (by assumption) ?_) | omega | (simp; done) | (simp; omega)))))); (exact (by exact hK0_2.rd.mono (by (repeat' (first | (with_reducible exact Below.refl _ _) | (with_reducible assumption) | (with_reducible refine Below.alloc ?_ ?_ _) | (with_reducible refine Below.drew ?_) | (with_reducible refine bdN ?_ _) | (with_reducible refine Below.setCell ?_ ?_ _) | (with_reducible refine chn ?_ (by assumption) ?_) | omega | (simp; done) | (simp; omega)))))); rintro ee v2 ⟨rfl, hv2⟩; obtain ⟨hcv2, hfv2, _⟩ := bcl hv2; have hq2 := hv2.size; (try simp only [World.size_drew, World.size_alloc] at hq2); (try have ho2_0 : w1.heap.size < v2.heap.size := (by omega)); (try have ho2_1 : v0.heap.size < v2.heap.size := (by omega)); (try have ho2_2 : v1.heap.size < v2.heap.size := (by omega)))))
    all_goals (go_wp2_with fail; go_meet)
    all_goals go_split_ands
    all_goals (refine ⟨⟨_, rfl, rfl, (by first | (go_simp; done) | (simp [*]; done)), (by first | (go_simp; done) | (simp [*]; done)), (by first | (go_simp; done) | (simp [*]; done))⟩, (by with_reducible assumption), (by with_reducible assumption), (by with_reducible assumption), (by with_reducible assumption), (by with_reducible assumption), (by with_reducible assumption), (by (try simp only [World.size_alloc, World.size_drew, World.size_setCell]); omega), (by (repeat' (first | (with_reducible exact Below.refl _ _) | (with_reducible assumption) | (with_reducible refine Below.alloc ?_ ?_ _) | (with_reducible refine Below.drew ?_) | (with_reducible refine bdN ?_ _) | (with_reducible refine Below.setCell ?_ ?_ _) | (with_reducible refine chn ?_ (by assumption) ?_) | omega | (simp; done) | (simp; omega))))⟩)
  case rest =>
    obtain ⟨w2, rfl⟩ : ∃ w2, w2 = wc := ⟨_, rfl⟩
    clear k1_0_0 k1_0_1 k1_0_2 k1_1_0 k1_1_1 k1_1_2
    obtain ⟨⟨bW2, rfl, rfl, k2_2_0, k2_2_1, k2_2_2⟩, k2_0_0, k2_0_1, k2_0_2, k2_1_0, k2_1_1, k2_1_2, hz2, hB2⟩ := hcut
    have bl2_0 : w.heap.size < w2.heap.size := World.block_lt_of_cell? _ _ k2_0_0
    have bl2_1 : w.heap.size + 1 < w2.heap.size := World.block_lt_of_cell? _ _ k2_1_0
    have bl2_2 : bW2 < w2.heap.size := World.block_lt_of_cell? _ _ k2_2_0
    go_wp2_with (fail)
    refine (toTableau ?_ ?_ HN1p0.out bn1p0 HN2p0.out bn2p0).mono ?_
    · exact HAA1p0.out.mono (by (repeat' (first | (with_reducible exact Below.refl _ _) | (with_reducible assumption) | (with_reducible refine Below.alloc ?_ ?_ _) | (with_reducible refine Below.drew ?_) | (with_reducible refine bdN ?_ _) | (with_reducible refine Below.setCell ?_ ?_ _) | (with_reducible refine chn ?_ (by assumption) ?_) | omega | (simp; done) | (simp; omega))))
    · exact HAA2p0.out.mono (by (repeat' (first | (with_reducible exact Below.refl _ _) | (with_reducible assumption) | (with_reducible refine Below.alloc ?_ ?_ _) | (with_reducible refine Below.drew ?_) | (with_reducible refine bdN ?_ _) | (with_reducible refine Below.setCell ?_ ?_ _) | (with_reducible refine chn ?_ (by assumption) ?_) | omega | (simp; done) | (simp; omega))))
    rintro ee w3 ⟨g3_1, g3_2, rfl, hK3_1, hK3_2, hg3_1, hg3_2, hb3⟩
    have hL3 : Below w2.heap.size w2 w3 := by (repeat' (first | (with_reducible exact Below.refl _ _) | (with_reducible assumption) | (with_reducible refine Below.alloc ?_ ?_ _) | (with_reducible refine Below.drew ?_) | (with_reducible refine bdN ?_ _) | (with_reducible refine Below.setCell ?_ ?_ _) | (with_reducible refine chn ?_ (by assumption) ?_) | omega | (simp; done) | (simp; omega)))
    have hz3 := hb3.size
    (try simp only [World.size_alloc] at hz3)
    have hB3 : Below w.heap.size w w3 := chn hB2 hL3 hB2.size
    have k3_0_0 : w3.cell? ⟨w.heap.size, 0, none⟩ = some (.int .i64 a0p0) := (hL3.cell (p := ⟨w.heap.size, 0, none⟩) (by show w.heap.size < w2.heap.size; omega)).trans k2_0_0
    have k3_0_1 : w3.cell? ⟨w.heap.size, 1, none⟩ = some (.slice (A1p0) n1p0 c1p0) := (hL3.cell (p := ⟨w.heap.size, 1, none⟩) (by show w.heap.size < w2.heap.size; omega)).trans k2_0_1
    have k3_0_2 : w3.cell? ⟨w.heap.size, 2, none⟩ = some (.slice (A2p0) n2p0 c2p0) := (hL3.cell (p := ⟨w.heap.size, 2, none⟩) (by show w.heap.size < w2.heap.size; omega)).trans k2_0_2
    have k3_1_0 : w3.cell? ⟨w.heap.size + 1, 0, none⟩ = some (.int .i64 x1.f0) := (hL3.cell (p := ⟨w.heap.size + 1, 0, none⟩) (by show w.heap.size + 1 < w2.heap.size; omega)).trans k2_1_0
    have k3_1_1 : w3.cell? ⟨w.heap.size + 1, 1, none⟩ = some (.int .i64 x1.f1) := (hL3.cell (p := ⟨w.heap.size + 1, 1, none⟩) (by show w.heap.size + 1 < w2.heap.size; omega)).trans k2_1_1
    have k3_1_2 : w3.cell? ⟨w.heap.size + 1, 2, none⟩ = some (.int .i64 x1.f2) := (hL3.cell (p := ⟨w.heap.size + 1, 2, none⟩) (by show w.heap.size + 1 < w2.heap.size; omega)).trans k2_1_2
    have k3_2_0 : w3.cell? ⟨bW2, 0, none⟩ = some (.int .i64 y0.f0) := (hL3.cell (p := ⟨bW2, 0, none⟩) (by show bW2 < w2.heap.size; omega)).trans k2_2_0
    have k3_2_1 : w3.cell? ⟨bW2, 1, none⟩ = some (.int .i64 y0.f1) := (hL3.cell (p := ⟨bW2, 1, none⟩) (by show bW2 < w2.heap.size; omega)).trans k2_2_1
    have k3_2_2 : w3.cell? ⟨bW2, 2, none⟩ = some (.int .i64 y0.f2) := (hL3.cell (p := ⟨bW2, 2, none⟩) (by show bW2 < w2.heap.size; omega)).trans k2_2_2
    have bl3_0 : w.heap.size < w3.heap.size := World.block_lt_of_cell? _ _ k3_0_0
    have bl3_1 : w.heap.size + 1 < w3.heap.size := World.block_lt_of_cell? _ _ k3_1_0
    have bl3_2 : bW2 < w3.heap.size := World.block_lt_of_cell? _ _ k3_2_0
    clear hb3 hL3
    clear k2_0_0 k2_0_1 k2_0_2 k2_1_0 k2_1_1 k2_1_2 k2_2_0 k2_2_1 k2_2_2
    (try simp only [World.size_alloc] at hg3_1)
    have HX03 : Hid (Ow pauliE w3 (w2.heap.size) 45 (some ⟨g3_1, 0, none⟩) xs1p0) := hK3_1.ow (by omega)
    clear hK3_1
    have hr_X0 := HX03.out.row
    have HX13 : Hid (Ow pauliE w3 (g3_1 + 1) 45 (some ⟨g3_2, 0, none⟩) xs2p0) := hK3_2.ow (by omega)
    clear hK3_2
    have hr_X1 := HX13.out.row
    have hne_X0 : ∀ r, blk (some ⟨g3_1, 0, none⟩) = some r → blk (some ⟨g3_2, 0, none⟩) ≠ some r := fun r h1 h2 => by cases h1; cases h2; omega
    go_upto_region 7 with (fail)
    obtain ⟨w4, hW⟩ : ∃ W : World, W = (w3.alloc (.cells #[.int .i64 a0p0, .slice (some ⟨g3_1, 0, none⟩) n1p0 n1p0, .slice (some ⟨g3_2, 0, none⟩) n2p0 n2p0] 67)) := ⟨_, rfl⟩
    have hL4 : Below w3.heap.size w3 w4 := by rw [hW]; (repeat' (first | (with_reducible exact Below.refl _ _) | (with_reducible assumption) | (with_reducible refine Below.alloc ?_ ?_ _) | (with_reducible refine Below.drew ?_) | (with_reducible refine bdN ?_ _) | (with_reducible refine Below.setCell ?_ ?_ _) | (with_reducible refine chn ?_ (by assumption) ?_) | omega | (simp; done) | (simp; omega)))
    have XB0 : Bb w4 (w3.heap.size) 67 #[.int .i64 a0p0, .slice (some ⟨g3_1, 0, none⟩) n1p0 n1p0, .slice (some ⟨g3_2, 0, none⟩) n2p0 n2p0] := by rw [hW]; (repeat' (first | (with_reducible assumption) | (refine Bb.new (by first | (with_reducible rfl) | (simp; done))) | (with_reducible refine Bb.alloc ?_ _) | (with_reducible refine Bb.drew ?_) | (with_reducible refine Bb.drewN ?_ _) | (with_reducible refine Bb.mono ?_ (by assumption)) | (with_reducible refine Bb.far ?_ (by (try simp only [World.size_alloc, World.size_drew]); omega)) | (with_reducible refine Bb.set ?_ rfl) | (with_reducible refine Bb.grown ?_ (by assumption) (by assumption))))
    have hz4 : w3.heap.size + 1 ≤ w4.heap.size := by rw [hW]; simp
    rw [← hW]
    clear hW
    have hB4 : Below w.heap.size w w4 := chn hB3 hL4 hB3.size
    have k4_0_0 : w4.cell? ⟨w.heap.size, 0, none⟩ = some (.int .i64 a0p0) := (hL4.cell (p := ⟨w.heap.size, 0, none⟩) (by show w.heap.size < w3.heap.size; omega)).trans k3_0_0
    have k4_0_1 : w4.cell? ⟨w.heap.size, 1, none⟩ = some (.slice (A1p0) n1p0 c1p0) := (hL4.cell (p := ⟨w.heap.size, 1, none⟩) (by show w.heap.size < w3.heap.size; omega)).trans k3_0_1
    have k4_0_2 : w4.cell? ⟨w.heap.size, 2, none⟩ = some (.slice (A2p0) n2p0 c2p0) := (hL4.cell (p := ⟨w.heap.size, 2, none⟩) (by show w.heap.size < w3.heap.size; omega)).trans k3_0_2
    have k4_1_0 : w4.cell? ⟨w.heap.size + 1, 0, none⟩ = some (.int .i64 x1.f0) := (hL4.cell (p := ⟨w.heap.size + 1, 0, none⟩) (by show w.heap.size + 1 < w3.heap.size; omega)).trans k3_1_0
    have k4_1_1 : w4.cell? ⟨w.heap.size + 1, 1, none⟩ = some (.int .i64 x1.f1) := (hL4.cell (p := ⟨w.heap.size + 1, 1, none⟩) (by show w.heap.size + 1 < w3.heap.size; omega)).trans k3_1_1
    have k4_1_2 : w4.cell? ⟨w.heap.size + 1, 2, none⟩ = some (.int .i64 x1.f2) := (hL4.cell (p := ⟨w.heap.size + 1, 2, none⟩) (by show w.heap.size + 1 < w3.heap.size; omega)).trans k3_1_2
    have k4_2_0 : w4.cell? ⟨bW2, 0, none⟩ = some (.int .i64 y0.f0) := (hL4.cell (p := ⟨bW2, 0, none⟩) (by show bW2 < w3.heap.size; omega)).trans k3_2_0
    have k4_2_1 : w4.cell? ⟨bW2, 1, none⟩ = some (.int .i64 y0.f1) := (hL4.cell (p := ⟨bW2, 1, none⟩) (by show bW2 < w3.heap.size; omega)).trans k3_2_1
    have k4_2_2 : w4.cell? ⟨bW2, 2, none⟩ = some (.int .i64 y0.f2) := (hL4.cell (p := ⟨bW2, 2, none⟩) (by show bW2 < w3.heap.size; omega)).trans k3_2_2
    have k4_3_0 : w4.cell? ⟨w3.heap.size, 0, none⟩ = some (.int .i64 a0p0) := XB0.c 0 rfl
    have k4_3_1 : w4.cell? ⟨w3.heap.size, 1, none⟩ = some (.slice (some ⟨g3_1, 0, none⟩) n1p0 n1p0) := XB0.c 1 rfl
    have k4_3_2 : w4.cell? ⟨w3.heap.size, 2, none⟩ = some (.slice (some ⟨g3_2, 0, none⟩) n2p0 n2p0) := XB0.c 2 rfl
    clear XB0
    have bl4_0 : w.heap.size < w4.heap.size := World.block_lt_of_cell? _ _ k4_0_0
    have bl4_1 : w.heap.size + 1 < w4.heap.size := World.block_lt_of_cell? _ _ k4_1_0
    have bl4_2 : bW2 < w4.heap.size := World.block_lt_of_cell? _ _ k4_2_0
    have bl4_3 : w3.heap.size < w4.heap.size := World.block_lt_of_cell? _ _ k4_3_0
    have HX04 := lay (HX03.out.mono hL4)
    have HX14 := lay (HX13.out.mono hL4)
    clear hL4
    clear k3_0_0 k3_0_1 k3_0_2 k3_1_0 k3_1_1 k3_1_2 k3_2_0 k3_2_1 k3_2_2 HX03 HX13
    go_wp2_with (fail)
    go_cut [9, 10] (fun s9 s10 wx => (∃ b : Nat, s9 = .pointer (some ⟨b, 0, none⟩) ∧ s10 = .bool r1 ∧ wx.cell? ⟨b, 0, none⟩ = some (.int .i64 y0.f0) ∧ wx.cell? ⟨b, 1, none⟩ = some (.int .i64 y0.f1) ∧ wx.cell? ⟨b, 2, none⟩ = some (.int .i64 y0.f2)) ∧ (wx.cell? ⟨w.heap.size, 0, none⟩ = some (.int .i64 a0p0) ∧ wx.cell? ⟨w.heap.size, 1, none⟩ = some (.slice (A1p0) n1p0 c1p0) ∧ wx.cell? ⟨w.heap.size, 2, none⟩ = some (.slice (A2p0) n2p0 c2p0) ∧ wx.cell? ⟨w.heap.size + 1, 0, none⟩ = some (.int .i64 x1.f0) ∧ wx.cell? ⟨w.heap.size + 1, 1, none⟩ = some (.int .i64 x1.f1) ∧ wx.cell? ⟨w.heap.size + 1, 2, none⟩ = some (.int .i64 x1.f2) ∧ wx.cell? ⟨bW2, 0, none⟩ = some (.int .i64 y0.f0) ∧ wx.cell? ⟨bW2, 1, none⟩ = some (.int .i64 y0.f1) ∧ wx.cell? ⟨bW2, 2, none⟩ = some (.int .i64 y0.f2) ∧ wx.cell? ⟨w3.heap.size, 0, none⟩ = some (.int .i64 a0p0) ∧ wx.cell? ⟨w3.heap.size, 1, none⟩ = some (.slice (some ⟨g3_1, 0, none⟩) n1p0 n1p0) ∧ wx.cell? ⟨w3.heap.size, 2, none⟩ = some (.slice (some ⟨g3_2, 0, none⟩) n2p0 n2p0) ∧ Hid (Ow pauliE wx (w2.heap.size) 45 (some ⟨g3_1, 0, none⟩) xs1p0) ∧ Hid (Ow pauliE wx (g3_1 + 1) 45 (some ⟨g3_2, 0, none⟩) xs2p0) ∧ w4.heap.size ≤ wx.heap.size ∧ Below w.heap.size w wx))
    case first =>
      have yk4_0_0 : w4.drew.cell? ⟨w.heap.size, 0, none⟩ = some (.int .i64 a0p0) := k4_0_0
      have yk4_0_1 : w4.drew.cell? ⟨w.heap.size, 1, none⟩ = some (.slice (A1p0) n1p0 c1p0) := k4_0_1
      have yk4_0_2 : w4.drew.cell? ⟨w.heap.size, 2, none⟩ = some (.slice (A2p0) n2p0 c2p0) := k4_0_2
      have yk4_1_0 : w4.drew.cell? ⟨w.heap.size + 1, 0, none⟩ = some (.int .i64 x1.f0) := k4_1_0
      have yk4_1_1 : w4.drew.cell? ⟨w.heap.size + 1, 1, none⟩ = some (.int .i64 x1.f1) := k4_1_1
      have yk4_1_2 : w4.drew.cell? ⟨w.heap.size + 1, 2, none⟩ = some (.int .i64 x1.f2) := k4_1_2
      have yk4_2_0 : w4.drew.cell? ⟨bW2, 0, none⟩ = some (.int .i64 y0.f0) := k4_2_0
      have yk4_2_1 : w4.drew.cell? ⟨bW2, 1, none⟩ = some (.int .i64 y0.f1) := k4_2_1
      have yk4_2_2 : w4.drew.cell? ⟨bW2, 2, none⟩ = some (.int .i64 y0.f2) := k4_2_2
      have yk4_3_0 : w4.drew.cell? ⟨w3.heap.size, 0, none⟩ = some (.int .i64 a0p0) := k4_3_0
      have yk4_3_1 : w4.drew.cell? ⟨w3.heap.size, 1, none⟩ = some (.slice (some ⟨g3_1, 0, none⟩) n1p0 n1p0) := k4_3_1
      have yk4_3_2 : w4.drew.cell? ⟨w3.heap.size, 2, none⟩ = some (.slice (some ⟨g3_2, 0, none⟩) n2p0 n2p0) := k4_3_2
      have hBz := hB4.size
      go_region_held3 (fun w' => w'.cell? ⟨w.heap.size, 0, none⟩ = some (.int .i64 a0p0) ∧ w'.cell? ⟨w.heap.size, 1, none⟩ = some (.slice (A1p0) n1p0 c1p0) ∧ w'.cell? ⟨w.heap.size, 2, none⟩ = some (.slice (A2p0) n2p0 c2p0) ∧ w'.cell? ⟨w.heap.size + 1, 0, none⟩ = some (.int .i64 x1.f0) ∧ w'.cell? ⟨w.heap.size + 1, 1, none⟩ = some (.int .i64 x1.f1) ∧ w'.cell? ⟨w.heap.size + 1, 2, none⟩ = some (.int .i64 x1.f2) ∧ w'.cell? ⟨bW2, 0, none⟩ = some (.int .i64 y0.f0) ∧ w'.cell? ⟨bW2, 1, none⟩ = some (.int .i64 y0.f1) ∧ w'.cell? ⟨bW2, 2, none⟩ = some (.int .i64 y0.f2) ∧ w'.cell? ⟨w3.heap.size, 0, none⟩ = some (.int .i64 a0p0) ∧ w'.cell? ⟨w3.heap.size, 1, none⟩ = some (.slice (some ⟨g3_1, 0, none⟩) n1p0 n1p0) ∧ w'.cell? ⟨w3.heap.size, 2, none⟩ = some (.slice (some ⟨g3_2, 0, none⟩) n2p0 n2p0)) (first | (with_reducible exact ⟨yk4_0_0, yk4_0_1, yk4_0_2, yk4_1_0, yk4_1_1, yk4_1_2, yk4_2_0, yk4_2_1, yk4_2_2, yk4_3_0, yk4_3_1, yk4_3_2⟩) | (with_reducible exact ⟨k4_0_0, k4_0_1, k4_0_2, k4_1_0, k4_1_1, k4_1_2, k4_2_0, k4_2_1, k4_2_2, k4_3_0, k4_3_1, k4_3_2⟩) | (go_split_ands; with_reducible exact ⟨kcl hv0 (by with_reducible assumption), kcl hv0 (by with_reducible assumption), kcl hv0 (by with_reducible assumption), kcl hv0 (by with_reducible assumption), kcl hv0 (by with_reducible assumption), kcl hv0 (by with_reducible assumption), kcl hv0 (by with_reducible assumption), kcl hv0 (by with_reducible assumption), kcl hv0 (by with_reducible assumption), kcl hv0 (by with_reducible assumption), kcl hv0 (by with_reducible assumption), kcl hv0 (by with_reducible assumption)⟩) | (go_split_ands; with_reducible exact ⟨kcl hv1 (by with_reducible assumption), kcl hv1 (by with_reducible assumption), kcl hv1 (by with_reducible assumption), kcl hv1 (by with_reducible assumption), kcl hv1 (by with_reducible assumption), kcl hv1 (by with_reducible assumption), kcl hv1 (by with_reducible assumption), kcl hv1 (by with_reducible assumption), kcl hv1 (by with_reducible assumption), kcl hv1 (by with_reducible assumption), kcl hv1 (by with_reducible assumption), kcl hv1 (by with_reducible assumption)⟩) | (go_split_ands; with_reducible exact ⟨kclAl (by with_reducible assumption), kclAl (by with_reducible assumption), kclAl (by with_reducible assumption), kclAl (by with_reducible assumption), kclAl (by with_reducible assumption), kclAl (by with_reducible assumption), kclAl (by with_reducible assumption), kclAl (by with_reducible assumption), kclAl (by with_reducible assumption), kclAl (by with_reducible assumption), kclAl (by with_reducible assumption), kclAl (by with_reducible assumption)⟩) | (go_split_ands; with_reducible exact ⟨kclAld (by with_reducible assumption), kclAld (by with_reducible assumption), kclAld (by with_reducible assumption), kclAld (by with_reducible assumption), kclAld (by with_reducible assumption), kclAld (by with_reducible assumption), kclAld (by with_reducible assumption), kclAld (by with_reducible assumption), kclAld (by with_reducible assumption), kclAld (by with_reducible assumption), kclAld (by with_reducible assumption), kclAld (by with_reducible assumption)⟩) | (go_split_ands; with_reducible exact ⟨kclRe (by omega) (by with_reducible assumption), kclRe (by omega) (by with_reducible assumption), kclRe (by omega) (by with_reducible assumption), kclRe (by omega) (by with_reducible assumption), kclRe (by omega) (by with_reducible assumption), kclRe (by omega) (by with_reducible assumption), kclRe (by omega) (by with_reducible assumption), kclRe (by omega) (by with_reducible assumption), kclRe (by omega) (by with_reducible assumption), kclRe (by omega) (by with_reducible assumption), kclRe (by omega) (by with_reducible assumption), kclRe (by omega) (by with_reducible assumption)⟩) | (go_split_ands; with_reducible exact ⟨kclS3 (by omega) (by with_reducible assumption), kclS3 (by omega) (by with_reducible assumption), kclS3 (by omega) (by with_reducible assumption), kclS3 (by omega) (by with_reducible assumption), kclS3 (by omega) (by with_reducible assumption), kclS3 (by omega) (by with_reducible assumption), kclS3 (by omega) (by with_reducible assumption), kclS3 (by omega) (by with_reducible assumption), kclS3 (by omega) (by with_reducible assumption), kclS3 (by omega) (by with_reducible assumption), kclS3 (by omega) (by with_reducible assumption), kclS3 (by omega) (by with_reducible assumption)⟩)) (first | (go_at_call 27; ((with_reducible refine (toPauli x1 _).mono ?_); rintro ee v0 ⟨rfl, hv0⟩; obtain ⟨hcv0, hfv0, _⟩ := bcl hv0; have hq0 := hv0.size; (try simp only [World.size_drew, World.size_alloc] at hq0); (try have ho0_0 : w4.heap.size < v0.heap.size := (by omega)); (try have ho0_1 : v1.heap.size < v0.heap.size := (by omega)))) | (go_at_call 52; ((with_reducible refine (HI.out _ _ _ ?_ ?_).mono ?_); (exact HX04.out.rd.mono (by (repeat' (first | (with_reducible exact Below.refl _ _) | (with_reducible assumption) | (with_reducible refine Below.alloc ?_ ?_ _) | (with_reducible refine Below.drew ?_) | (with_reducible refine bdN ?_ _) | (with_reducible refine Below.setCell ?_ ?_ _) | (with_reducible refine chn ?_ (by assumption) ?_) | omega | (simp; done) | (simp; omega))))); (exact HX14.out.rd.mono (by (repeat' (first | (with_reducible exact Below.refl _ _) | (with_reducible assumption) | (with_reducible refine Below.alloc ?_ ?_ _) | (with_reducible refine Below.drew ?_) | (with_reducible refine bdN ?_ _) | (with_reducible refine Below.setCell ?_ ?_ _) | (with_reducible refine chn ?_ (by assumption) ?_) | omega | (simp; done) | (simp; omega))))); rintro ee v1 ⟨rfl, hv1⟩; obtain ⟨hcv1, hfv1, _⟩ := bcl hv1; have hq1 := hv1.size; (try simp only [World.size_drew, World.size_alloc] at hq1); (try have ho1_0 : w4.heap.size < v1.heap.size := (by omega)); (try have ho1_1 : v0.heap.size < v1.heap.size := (by omega)))))
      all_goals (go_wp2_with fail; go_meet)
      all_goals go_split_ands
      all_goals (refine ⟨⟨_, rfl, rfl, (by first | (go_simp; done) | (simp [*]; done)), (by first | (go_simp; done) | (simp [*]; done)), (by first | (go_simp; done) | (simp [*]; done))⟩, (by with_reducible assumption), (by with_reducible assumption), (by with_reducible assumption), (by with_reducible assumption), (by with_reducible assumption), (by with_reducible assumption), (by with_reducible assumption), (by with_reducible assumption), (by with_reducible assumption), (by with_reducible assumption), (by with_reducible assumption), (by with_reducible assumption), (by exact HX04.out.mono (by (repeat' (first | (with_reducible exact Below.refl _ _) | (with_reducible assumption) | (with_reducible refine Below.alloc ?_ ?_ _) | (with_reducible refine Below.drew ?_) | (with_reducible refine bdN ?_ _) | (with_reducible refine Below.setCell ?_ ?_ _) | (with_reducible refine chn ?_ (by assumption) ?_) | omega | (simp; done) | (simp; omega))))), (by exact HX14.out.mono (by (repeat' (first | (with_reducible exact Below.refl _ _) | (with_reducible assumption) | (with_reducible refine Below.alloc ?_ ?_ _) | (with_reducible refine Below.drew ?_) | (with_reducible refine bdN ?_ _) | (with_reducible refine Below.setCell ?_ ?_ _) | (with_reducible refine chn ?_ (by assumption) ?_) | omega | (simp; done) | (simp; omega))))), (by (try simp only [World.size_alloc, World.size_drew, World.size_setCell]); omega), (by (repeat' (first | (with_reducible exact Below.refl _ _) | (with_reducible assumption) | (with_reducible refine Below.alloc ?_ ?_ _) | (with_reducible refine Below.drew ?_) | (with_reducible refine bdN ?_ _) | (with_reducible refine Below.setCell ?_ ?_ _) | (with_reducible refine chn ?_ (by assumption) ?_) | omega | (simp; done) | (simp; omega))))⟩)
    case rest =>
      obtain ⟨w5, rfl⟩ : ∃ w5, w5 = wc := ⟨_, rfl⟩
      clear k4_0_0 k4_0_1 k4_0_2 k4_1_0 k4_1_1 k4_1_2 k4_2_0 k4_2_1 k4_2_2 k4_3_0 k4_3_1 k4_3_2 HX04 HX14
      obtain ⟨⟨bG5, rfl, rfl, k5_4_0, k5_4_1, k5_4_2⟩, k5_0_0, k5_0_1, k5_0_2, k5_1_0, k5_1_1, k5_1_2, k5_2_0, k5_2_1, k5_2_2, k5_3_0, k5_3_1, k5_3_2, HX05, HX15, hz5, hB5⟩ := hcut
      have bl5_0 : w.heap.size < w5.heap.size := World.block_lt_of_cell? _ _ k5_0_0
      have bl5_1 : w.heap.size + 1 < w5.heap.size := World.block_lt_of_cell? _ _ k5_1_0
      have bl5_2 : bW2 < w5.heap.size := World.block_lt_of_cell? _ _ k5_2_0
      have bl5_3 : w3.heap.size < w5.heap.size := World.block_lt_of_cell? _ _ k5_3_0
      have bl5_4 : bG5 < w5.heap.size := World.block_lt_of_cell? _ _ k5_4_0
      go_wp2_with (fail)
      refine (eqPauli y0 _).mono ?_
      rintro ee w6 ⟨rfl, hb6⟩
      have hL6 : Below w5.heap.size w5 w6 := by (repeat' (first | (with_reducible exact Below.refl _ _) | (with_reducible assumption) | (with_reducible refine Below.alloc ?_ ?_ _) | (with_reducible refine Below.drew ?_) | (with_reducible refine bdN ?_ _) | (with_reducible refine Below.setCell ?_ ?_ _) | (with_reducible refine chn ?_ (by assumption) ?_) | omega | (simp; done) | (simp; omega)))
      have hz6 := hb6.size
      (try simp only [World.size_alloc] at hz6)
      have hB6 : Below w.heap.size w w6 := chn hB5 hL6 hB5.size
      have k6_0_0 : w6.cell? ⟨w.heap.size, 0, none⟩ = some (.int .i64 a0p0) := (hL6.cell (p := ⟨w.heap.size, 0, none⟩) (by show w.heap.size < w5.heap.size; omega)).trans k5_0_0
      have k6_0_1 : w6.cell? ⟨w.heap.size, 1, none⟩ = some (.slice (A1p0) n1p0 c1p0) := (hL6.cell (p := ⟨w.heap.size, 1, none⟩) (by show w.heap.size < w5.heap.size; omega)).trans k5_0_1
      have k6_0_2 : w6.cell? ⟨w.heap.size, 2, none⟩ = some (.slice (A2p0) n2p0 c2p0) := (hL6.cell (p := ⟨w.heap.size, 2, none⟩) (by show w.heap.size < w5.heap.size; omega)).trans k5_0_2
      have k6_1_0 : w6.cell? ⟨w.heap.size + 1, 0, none⟩ = some (.int .i64 x1.f0) := (hL6.cell (p := ⟨w.heap.size + 1, 0, none⟩) (by show w.heap.size + 1 < w5.heap.size; omega)).trans k5_1_0
      have k6_1_1 : w6.cell? ⟨w.heap.size + 1, 1, none⟩ = some (.int .i64 x1.f1) := (hL6.cell (p := ⟨w.heap.size + 1, 1, none⟩) (by show w.heap.size + 1 < w5.heap.size; omega)).trans k5_1_1
      have k6_1_2 : w6.cell? ⟨w.heap.size + 1, 2, none⟩ = some (.int .i64 x1.f2) := (hL6.cell (p := ⟨w.heap.size + 1, 2, none⟩) (by show w.heap.size + 1 < w5.heap.size; omega)).trans k5_1_2
      have k6_2_0 : w6.cell? ⟨bW2, 0, none⟩ = some (.int .i64 y0.f0) := (hL6.cell (p := ⟨bW2, 0, none⟩) (by show bW2 < w5.heap.size; omega)).trans k5_2_0
      have k6_2_1 : w6.cell? ⟨bW2, 1, none⟩ = some (.int .i64 y0.f1) := (hL6.cell (p := ⟨bW2, 1, none⟩) (by show bW2 < w5.heap.size; omega)).trans k5_2_1
      have k6_2_2 : w6.cell? ⟨bW2, 2, none⟩ = some (.int .i64 y0.f2) := (hL6.cell (p := ⟨bW2, 2, none⟩) (by show bW2 < w5.heap.size; omega)).trans k5_2_2
      have k6_3_0 : w6.cell? ⟨w3.heap.size, 0, none⟩ = some (.int .i64 a0p0) := (hL6.cell (p := ⟨w3.heap.size, 0, none⟩) (by show w3.heap.size < w5.heap.size; omega)).trans k5_3_0
      have k6_3_1 : w6.cell? ⟨w3.heap.size, 1, none⟩ = some (.slice (some ⟨g3_1, 0, none⟩) n1p0 n1p0) := (hL6.cell (p := ⟨w3.heap.size, 1, none⟩) (by show w3.heap.size < w5.heap.size; omega)).trans k5_3_1
      have k6_3_2 : w6.cell? ⟨w3.heap.size, 2, none⟩ = some (.slice (some ⟨g3_2, 0, none⟩) n2p0 n2p0) := (hL6.cell (p := ⟨w3.heap.size, 2, none⟩) (by show w3.heap.size < w5.heap.size; omega)).trans k5_3_2
      have k6_4_0 : w6.cell? ⟨bG5, 0, none⟩ = some (.int .i64 y0.f0) := (hL6.cell (p := ⟨bG5, 0, none⟩) (by show bG5 < w5.heap.size; omega)).trans k5_4_0
      have k6_4_1 : w6.cell? ⟨bG5, 1, none⟩ = some (.int .i64 y0.f1) := (hL6.cell (p := ⟨bG5, 1, none⟩) (by show bG5 < w5.heap.size; omega)).trans k5_4_1
      have k6_4_2 : w6.cell? ⟨bG5, 2, none⟩ = some (.int .i64 y0.f2) := (hL6.cell (p := ⟨bG5, 2, none⟩) (by show bG5 < w5.heap.size; omega)).trans k5_4_2
      have bl6_0 : w.heap.size < w6.heap.size := World.block_lt_of_cell? _ _ k6_0_0
      have bl6_1 : w.heap.size + 1 < w6.heap.size := World.block_lt_of_cell? _ _ k6_1_0
      have bl6_2 : bW2 < w6.heap.size := World.block_lt_of_cell? _ _ k6_2_0
      have bl6_3 : w3.heap.size < w6.heap.size := World.block_lt_of_cell? _ _ k6_3_0
      have bl6_4 : bG5 < w6.heap.size := World.block_lt_of_cell? _ _ k6_4_0
      have HX06 := lay (HX05.out.mono hL6)
      have HX16 := lay (HX15.out.mono hL6)
      clear hb6 hL6
      clear k5_0_0 k5_0_1 k5_0_2 k5_1_0 k5_1_1 k5_1_2 k5_2_0 k5_2_1 k5_2_2 k5_3_0 k5_3_1 k5_3_2 k5_4_0 k5_4_1 k5_4_2 HX05 HX15
      go_wp2_with (fail)
      go_cut [46] (fun s46 wx => (s46 = .bool false) ∧ (wx.cell? ⟨w.heap.size, 0, none⟩ = some (.int .i64 a0p0) ∧ wx.cell? ⟨w.heap.size, 1, none⟩ = some (.slice (A1p0) n1p0 c1p0) ∧ wx.cell? ⟨w.heap.size, 2, none⟩ = some (.slice (A2p0) n2p0 c2p0) ∧ wx.cell? ⟨w.heap.size + 1, 0, none⟩ = some (.int .i64 x1.f0) ∧ wx.cell? ⟨w.heap.size + 1, 1, none⟩ = some (.int .i64 x1.f1) ∧ wx.cell? ⟨w.heap.size + 1, 2, none⟩ = some (.int .i64 x1.f2) ∧ wx.cell? ⟨bW2, 0, none⟩ = some (.int .i64 y0.f0) ∧ wx.cell? ⟨bW2, 1, none⟩ = some (.int .i64 y0.f1) ∧ wx.cell? ⟨bW2, 2, none⟩ = some (.int .i64 y0.f2) ∧ wx.cell? ⟨w3.heap.size, 0, none⟩ = some (.int .i64 a0p0) ∧ wx.cell? ⟨w3.heap.size, 1, none⟩ = some (.slice (some ⟨g3_1, 0, none⟩) n1p0 n1p0) ∧ wx.cell? ⟨w3.heap.size, 2, none⟩ = some (.slice (some ⟨g3_2, 0, none⟩) n2p0 n2p0) ∧ wx.cell? ⟨bG5, 0, none⟩ = some (.int .i64 y0.f0) ∧ wx.cell? ⟨bG5, 1, none⟩ = some (.int .i64 y0.f1) ∧ wx.cell? ⟨bG5, 2, none⟩ = some (.int .i64 y0.f2) ∧ Hid (Ow pauliE wx (w2.heap.size) 45 (some ⟨g3_1, 0, none⟩) xs1p0) ∧ Hid (Ow pauliE wx (g3_1 + 1) 45 (some ⟨g3_2, 0, none⟩) xs2p0) ∧ w6.heap.size ≤ wx.heap.size ∧ Below w.heap.size w wx))
      case first =>
        have yk6_0_0 : w6.drew.cell? ⟨w.heap.size, 0, none⟩ = some (.int .i64 a0p0) := k6_0_0
        have yk6_0_1 : w6.drew.cell? ⟨w.heap.size, 1, none⟩ = some (.slice (A1p0) n1p0 c1p0) := k6_0_1
        have yk6_0_2 : w6.drew.cell? ⟨w.heap.size, 2, none⟩ = some (.slice (A2p0) n2p0 c2p0) := k6_0_2
        have yk6_1_0 : w6.drew.cell? ⟨w.heap.size + 1, 0, none⟩ = some (.int .i64 x1.f0) := k6_1_0
        have yk6_1_1 : w6.drew.cell? ⟨w.heap.size + 1, 1, none⟩ = some (.int .i64 x1.f1) := k6_1_1
        have yk6_1_2 : w6.drew.cell? ⟨w.heap.size + 1, 2, none⟩ = some (.int .i64 x1.f2) := k6_1_2
        have yk6_2_0 : w6.drew.cell? ⟨bW2, 0, none⟩ = some (.int .i64 y0.f0) := k6_2_0
        have yk6_2_1 : w6.drew.cell? ⟨bW2, 1, none⟩ = some (.int .i64 y0.f1) := k6_2_1
        have yk6_2_2 : w6.drew.cell? ⟨bW2, 2, none⟩ = some (.int .i64 y0.f2) := k6_2_2
        have yk6_3_0 : w6.drew.cell? ⟨w3.heap.size, 0, none⟩ = some (.int .i64 a0p0) := k6_3_0
        have yk6_3_1 : w6.drew.cell? ⟨w3.heap.size, 1, none⟩ = some (.slice (some ⟨g3_1, 0, none⟩) n1p0 n1p0) := k6_3_1
        have yk6_3_2 : w6.drew.cell? ⟨w3.heap.size, 2, none⟩ = some (.slice (some ⟨g3_2, 0, none⟩) n2p0 n2p0) := k6_3_2
        have yk6_4_0 : w6.drew.cell? ⟨bG5, 0, none⟩ = some (.int .i64 y0.f0) := k6_4_0
        have yk6_4_1 : w6.drew.cell? ⟨bG5, 1, none⟩ = some (.int .i64 y0.f1) := k6_4_1
        have yk6_4_2 : w6.drew.cell? ⟨bG5, 2, none⟩ = some (.int .i64 y0.f2) := k6_4_2
        have hBz := hB6.size
        go_region_held3 (fun w' => w'.cell? ⟨w.heap.size, 0, none⟩ = some (.int .i64 a0p0) ∧ w'.cell? ⟨w.heap.size, 1, none⟩ = some (.slice (A1p0) n1p0 c1p0) ∧ w'.cell? ⟨w.heap.size, 2, none⟩ = some (.slice (A2p0) n2p0 c2p0) ∧ w'.cell? ⟨w.heap.size + 1, 0, none⟩ = some (.int .i64 x1.f0) ∧ w'.cell? ⟨w.heap.size + 1, 1, none⟩ = some (.int .i64 x1.f1) ∧ w'.cell? ⟨w.heap.size + 1, 2, none⟩ = some (.int .i64 x1.f2) ∧ w'.cell? ⟨bW2, 0, none⟩ = some (.int .i64 y0.f0) ∧ w'.cell? ⟨bW2, 1, none⟩ = some (.int .i64 y0.f1) ∧ w'.cell? ⟨bW2, 2, none⟩ = some (.int .i64 y0.f2) ∧ w'.cell? ⟨w3.heap.size, 0, none⟩ = some (.int .i64 a0p0) ∧ w'.cell? ⟨w3.heap.size, 1, none⟩ = some (.slice (some ⟨g3_1, 0, none⟩) n1p0 n1p0) ∧ w'.cell? ⟨w3.heap.size, 2, none⟩ = some (.slice (some ⟨g3_2, 0, none⟩) n2p0 n2p0) ∧ w'.cell? ⟨bG5, 0, none⟩ = some (.int .i64 y0.f0) ∧ w'.cell? ⟨bG5, 1, none⟩ = some (.int .i64 y0.f1) ∧ w'.cell? ⟨bG5, 2, none⟩ = some (.int .i64 y0.f2)) (first | (with_reducible exact ⟨yk6_0_0, yk6_0_1, yk6_0_2, yk6_1_0, yk6_1_1, yk6_1_2, yk6_2_0, yk6_2_1, yk6_2_2, yk6_3_0, yk6_3_1, yk6_3_2, yk6_4_0, yk6_4_1, yk6_4_2⟩) | (with_reducible exact ⟨k6_0_0, k6_0_1, k6_0_2, k6_1_0, k6_1_1, k6_1_2, k6_2_0, k6_2_1, k6_2_2, k6_3_0, k6_3_1, k6_3_2, k6_4_0, k6_4_1, k6_4_2⟩) | (go_split_ands; with_reducible exact ⟨kcl hv0 (by with_reducible assumption), kcl hv0 (by with_reducible assumption), kcl hv0 (by with_reducible assumption), kcl hv0 (by with_reducible assumption), kcl hv0 (by with_reducible assumption), kcl hv0 (by with_reducible assumption), kcl hv0 (by with_reducible assumption), kcl hv0 (by with_reducible assumption), kcl hv0 (by with_reducible assumption), kcl hv0 (by with_reducible assumption), kcl hv0 (by with_reducible assumption), kcl hv0 (by with_reducible assumption), kcl hv0 (by with_reducible assumption), kcl hv0 (by with_reducible assumption), kcl hv0 (by with_reducible assumption)⟩) | (go_split_ands; with_reducible exact ⟨kcl hv1 (by with_reducible assumption), kcl hv1 (by with_reducible assumption), kcl hv1 (by with_reducible assumption), kcl hv1 (by with_reducible assumption), kcl hv1 (by with_reducible assumption), kcl hv1 (by with_reducible assumption), kcl hv1 (by with_reducible assumption), kcl hv1 (by with_reducible assumption), kcl hv1 (by with_reducible assumption), kcl hv1 (by with_reducible assumption), kcl hv1 (by with_reducible assumption), kcl hv1 (by with_reducible assumption), kcl hv1 (by with_reducible assumption), kcl hv1 (by with_reducible assumption), kcl hv1 (by with_reducible assumption)⟩)) (first | (go_at_call 41; ((with_reducible refine (toTableau (xs1 := xs1p0) (xs2 := xs2p0) ?_ ?_ HN1p0.out bn1p0 HN2p0.out bn2p0).mono ?_); (exact HAA1p0.out.mono (by (repeat' (first | (with_reducible exact Below.refl _ _) | (with_reducible assumption) | (with_reducible refine Below.alloc ?_ ?_ _) | (with_reducible refine Below.drew ?_) | (with_reducible refine bdN ?_ _) | (with_reducible refine Below.setCell ?_ ?_ _) | (with_reducible refine chn ?_ (by assumption) ?_) | omega | (simp; done) | (simp; omega))))); (exact HAA2p0.out.mono (by (repeat' (first | (with_reducible exact Below.refl _ _) | (with_reducible assumption) | (with_reducible refine Below.alloc ?_ ?_ _) | (with_reducible refine Below.drew ?_) | (with_reducible refine bdN ?_ _) | (with_reducible refine Below.setCell ?_ ?_ _) | (with_reducible refine chn ?_ (by assumption) ?_) | omega | (simp; done) | (simp; omega))))); rintro ee v0 ⟨g9_1, g9_2, rfl, hK9_1, hK9_2, hg9_1, hg9_2, hv0⟩; have hq0 := hv0.size; (try simp only [World.size_drew, World.size_alloc] at hq0))) | (go_at_call 43; ((with_reducible refine (eqTableau (xs1 := xs1p0) (xs2 := xs2p0) ?_ ?_ ?_ ?_ HN1p0.out bn1p0 HN2p0.out bn2p0).mono ?_); (exact HX06.out.rd.mono (by (repeat' (first | (with_reducible exact Below.refl _ _) | (with_reducible assumption) | (with_reducible refine Below.alloc ?_ ?_ _) | (with_reducible refine Below.drew ?_) | (with_reducible refine bdN ?_ _) | (with_reducible refine Below.setCell ?_ ?_ _) | (with_reducible refine chn ?_ (by assumption) ?_) | omega | (simp; done) | (simp; omega))))); (exact HX16.out.rd.mono (by (repeat' (first | (with_reducible exact Below.refl _ _) | (with_reducible assumption) | (with_reducible refine Below.alloc ?_ ?_ _) | (with_reducible refine Below.drew ?_) | (with_reducible refine bdN ?_ _) | (with_reducible refine Below.setCell ?_ ?_ _) | (with_reducible refine chn ?_ (by assumption) ?_) | omega | (simp; done) | (simp; omega))))); (exact hK9_1.rd.mono (by (repeat' (first | (with_reducible exact Below.refl _ _) | (with_reducible assumption) | (with_reducible refine Below.alloc ?_ ?_ _) | (with_reducible refine Below.drew ?_) | (with_reducible refine bdN ?_ _) | (with_reducible refine Below.setCell ?_ ?_ _) | (with_reducible refine chn ?_ (by assumption) ?_) | omega | (simp; done) | (simp; omega))))); (exact hK9_2.rd.mono (by (repeat' (first | (with_reducible exact Below.refl _ _) | (with_reducible assumption) | (with_reducible refine Below.alloc ?_ ?_ _) | (with_reducible refine Below.drew ?_) | (with_reducible refine bdN ?_ _) | (with_reducible refine Below.setCell ?_ ?_ _) | (with_reducible refine chn ?_ (by assumption) ?_) | omega | (simp; done) | (simp; omega))))); rintro ee v1 ⟨rfl, hv1⟩; have hq1 := hv1.size; (try simp only [World.size_drew, World.size_alloc] at hq1))))
        all_goals (go_wp2_with fail; go_meet)
        all_goals go_split_ands
        all_goals (refine ⟨rfl, (by with_reducible assumption), (by with_reducible assumption), (by with_reducible assumption), (by with_reducible assumption), (by with_reducible assumption), (by with_reducible assumption), (by with_reducible assumption), (by with_reducible assumption), (by with_reducible assumption), (by with_reducible assumption), (by with_reducible assumption), (by with_reducible assumption), (by with_reducible assumption), (by with_reducible assumption), (by with_reducible assumption), (by exact HX06.out.mono (by (repeat' (first | (with_reducible exact Below.refl _ _) | (with_reducible assumption) | (with_reducible refine Below.alloc ?_ ?_ _) | (with_reducible refine Below.drew ?_) | (with_reducible refine bdN ?_ _) | (with_reducible refine Below.setCell ?_ ?_ _) | (with_reducible refine chn ?_ (by assumption) ?_) | omega | (simp; done) | (simp; omega))))), (by exact HX16.out.mono (by (repeat' (first | (with_reducible exact Below.refl _ _) | (with_reducible assumption) | (with_reducible refine Below.alloc ?_ ?_ _) | (with_reducible refine Below.drew ?_) | (with_reducible refine bdN ?_ _) | (with_reducible refine Below.setCell ?_ ?_ _) | (with_reducible refine chn ?_ (by assumption) ?_) | omega | (simp; done) | (simp; omega))))), (by (try simp only [World.size_alloc, World.size_drew, World.size_setCell]); omega), (by (repeat' (first | (with_reducible exact Below.refl _ _) | (with_reducible assumption) | (with_reducible refine Below.alloc ?_ ?_ _) | (with_reducible refine Below.drew ?_) | (with_reducible refine bdN ?_ _) | (with_reducible refine Below.setCell ?_ ?_ _) | (with_reducible refine chn ?_ (by assumption) ?_) | omega | (simp; done) | (simp; omega))))⟩)
      case rest =>
        obtain ⟨w7, rfl⟩ : ∃ w7, w7 = wc := ⟨_, rfl⟩
        clear k6_0_0 k6_0_1 k6_0_2 k6_1_0 k6_1_1 k6_1_2 k6_2_0 k6_2_1 k6_2_2 k6_3_0 k6_3_1 k6_3_2 k6_4_0 k6_4_1 k6_4_2 HX06 HX16
        obtain ⟨rfl, k7_0_0, k7_0_1, k7_0_2, k7_1_0, k7_1_1, k7_1_2, k7_2_0, k7_2_1, k7_2_2, k7_3_0, k7_3_1, k7_3_2, k7_4_0, k7_4_1, k7_4_2, HX07, HX17, hz7, hB7⟩ := hcut
        have bl7_0 : w.heap.size < w7.heap.size := World.block_lt_of_cell? _ _ k7_0_0
        have bl7_1 : w.heap.size + 1 < w7.heap.size := World.block_lt_of_cell? _ _ k7_1_0
        have bl7_2 : bW2 < w7.heap.size := World.block_lt_of_cell? _ _ k7_2_0
        have bl7_3 : w3.heap.size < w7.heap.size := World.block_lt_of_cell? _ _ k7_3_0
        have bl7_4 : bG5 < w7.heap.size := World.block_lt_of_cell? _ _ k7_4_0
        go_wp2_with (fail)
        go_ret
        exact ⟨rfl, hB7⟩

theorem fnExactImageOf_walk {a0p0 : Int} {A1p0 : Option Addr} {n1p0 c1p0 : Nat} {A2p0 : Option Addr} {n2p0 c2p0 : Nat} {xs1p0 : List PauliV} {xs2p0 : List PauliV} {x1 : PauliV} {w : World} (hA1p0 : Rd pauliE w A1p0 xs1p0) (hn1p0 : xs1p0.length = n1p0) (hm1p0 : n1p0 ≤ maxLen) (hA2p0 : Rd pauliE w A2p0 xs2p0) (hn2p0 : xs2p0.length = n2p0) (hm2p0 : n2p0 ≤ maxLen) :
    Calls Try.prog 13 #[(tableauV a0p0 A1p0 n1p0 c1p0 A2p0 n2p0 c2p0), x1.v] w fun ee w' => ee = .returned (.bool true) ∧ Below w.heap.size w w' := by
  by_cases hb0 : (n1p0 : Int) + (n2p0 : Int) ≤ 1048576
  · skip
    obtain ⟨t, ht⟩ := boolOf (P := TOk a0p0 n1p0 n2p0 xs1p0 xs2p0)
    cases hok : (t && pB a0p0 x1)
    · exact lwImageOf (y0 := PauliV.z) (r1 := false) (fun g h w hA hB => im_s_f ht hok hA hB hn1p0 hn2p0 hm1p0 hm2p0) (fun g h w hA hB => im_i_f ht hok hA hB hn1p0 hn2p0 hm1p0 hm2p0)  hA1p0 hn1p0 (by omega) hA2p0 hn2p0 (by omega)
    · rw [Bool.and_eq_true] at hok
      have hT := ht.1 hok.1
      obtain ⟨n, rfl, rfl, rfl, q1, q5⟩ := TOk_nat hT
      obtain ⟨k', p0, px, pz, hk, -, -, rfl, hp0, hpx, hpz⟩ := pB_nat hok.2
      have hkn : n2p0 = k' := by omega
      rw [← hkn] at hpx hpz
      obtain ⟨⟨P, X, Z⟩, hr⟩ : ∃ s : St, imgS px pz xs1p0 xs2p0 p0 n2p0 = s := ⟨_, rfl⟩
      exact lwImageOf (y0 := pv P X Z) (r1 := true) (fun g h w hA hB => im_s_t q1 q5 hp0 hpx hpz hT hA hB hn1p0 hn2p0 hr) (fun g h w hA hB => im_i_t q1 q5 hp0 hpx hpz hT hA hB hn1p0 hn2p0 hr)  hA1p0 hn1p0 (by omega) hA2p0 hn2p0 (by omega)
  · exact bigImageOf0  (by omega) hm1p0 hm2p0

end Go.Proofs.Ytgcligmpdlffoaa.C4
