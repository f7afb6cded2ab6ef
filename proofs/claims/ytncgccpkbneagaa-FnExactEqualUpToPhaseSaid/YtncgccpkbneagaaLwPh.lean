/- The law on EqualUpToPhase. -/
import Derived.Test.YtncgccpkbneagaaPh3
import Derived.Test.YtncgccpkbneagaaZtab
import Derived.Test.YtncgccpkbneagaaZls
namespace Go.Proofs.Ytncgccpkbneagaa
open Go.RowKit RM
set_option linter.unusedVariables false
set_option linter.unusedSimpArgs false
attribute [local irreducible] World.setCell

set_option maxRecDepth 100000 in
set_option maxHeartbeats 8000000 in
theorem lwEqualUpToPhase {r c r' c' : Int} {A B : Option Addr} {n m cp cp' : Nat} {xs ys : List D5} {K : Int} {b1 b2 : Bool} {w : World} (hS : ∀ (g h : Nat) (w : World), Rd w (some ⟨g, 0, none⟩) xs → Rd w (some ⟨h, 0, none⟩) ys → Calls Try.prog 52 #[mv r c (some ⟨g, 0, none⟩) n n, mv r' c' (some ⟨h, 0, none⟩) m m] w fun ee w' => ee = .returned (.tuple #[.int .i64 K, .bool b1, .bool b2]) ∧ Below w.heap.size w w') (hI : ∀ (g h : Nat) (w : World), Rd w (some ⟨g, 0, none⟩) xs → Rd w (some ⟨h, 0, none⟩) ys → Calls Try.prog 53 #[mv r c (some ⟨g, 0, none⟩) n n, mv r' c' (some ⟨h, 0, none⟩) m m] w fun ee w' => ee = .returned (.tuple #[.int .i64 K, .bool b1, .bool b2]) ∧ Below w.heap.size w w') (hA : Rd w A xs) (hB : Rd w B ys) (hn : xs.length = n) (hm : ys.length = m) (hb : n + m ≤ 1048576) :
    Calls Try.prog 12 #[mv r c A n cp, mv r' c' B m cp'] w fun ee w' => ee = .returned (.bool true) ∧ Below w.heap.size w w' := by
  have HA := hid hA
  have HB := hid hB
  have HN := hid hn
  have HM := hid hm
  have HS := hid hS
  have HI := hid hI
  have bn : n ≤ 1048576 := by omega
  have bm : m ≤ 1048576 := by omega
  have s0 : ¬ (1048576 - (n : Int) < 0) := by omega
  have s1 : (n : Int) ≤ 1048576 := by omega
  have s2 : 0 ≤ 1048576 - (n : Int) := by omega
  have t0 : ¬ (1048576 - (n : Int) - (m : Int) < 0) := by omega
  have t1 : (m : Int) ≤ 1048576 - (n : Int) := by omega
  have t2 : 0 ≤ 1048576 - (n : Int) - (m : Int) := by omega
  have t3 : 1048576 - (n : Int) ≤ 1048576 := by omega
  clear hA hB hn hm hS hI
  go_enter Try.func12, Try.ntmps12
  go_wp2_with (fail)
  refine (szm_t s1 (by decide)).mono ?_
  rintro ee w1 ⟨rfl, hb1⟩
  have hL1 : Below w.heap.size w w1 := by (repeat' (first | (with_reducible exact Below.refl _ _) | (with_reducible assumption) | (with_reducible refine Below.alloc ?_ ?_ _) | (with_reducible refine Below.drew ?_) | (with_reducible refine below_drewN ?_ _) | (with_reducible refine Below.setCell ?_ ?_ _) | (with_reducible refine chain ?_ (by assumption) ?_) | omega | (simp; done) | (simp; omega)))
  have hz1 := hb1.size
  (try simp only [World.size_alloc] at hz1)
  have hB1 : Below w.heap.size w w1 := hL1
  have k1_0_0 : w1.cell? ⟨w.heap.size, 0, none⟩ = some (.int .i64 r) := (hb1.cell (p := ⟨w.heap.size, 0, none⟩) (by show w.heap.size < _; (try simp only [World.size_alloc]); omega)).trans (by first | rfl | (simp; done) | (simp [*]; done))
  have k1_0_1 : w1.cell? ⟨w.heap.size, 1, none⟩ = some (.int .i64 c) := (hb1.cell (p := ⟨w.heap.size, 1, none⟩) (by show w.heap.size < _; (try simp only [World.size_alloc]); omega)).trans (by first | rfl | (simp; done) | (simp [*]; done))
  have k1_0_2 : w1.cell? ⟨w.heap.size, 2, none⟩ = some (.slice A n cp) := (hb1.cell (p := ⟨w.heap.size, 2, none⟩) (by show w.heap.size < _; (try simp only [World.size_alloc]); omega)).trans (by first | rfl | (simp; done) | (simp [*]; done))
  have k1_1_0 : w1.cell? ⟨w.heap.size + 1, 0, none⟩ = some (.int .i64 r') := (hb1.cell (p := ⟨w.heap.size + 1, 0, none⟩) (by show w.heap.size + 1 < _; (try simp only [World.size_alloc]); omega)).trans (by first | rfl | (simp; done) | (simp [*]; done))
  have k1_1_1 : w1.cell? ⟨w.heap.size + 1, 1, none⟩ = some (.int .i64 c') := (hb1.cell (p := ⟨w.heap.size + 1, 1, none⟩) (by show w.heap.size + 1 < _; (try simp only [World.size_alloc]); omega)).trans (by first | rfl | (simp; done) | (simp [*]; done))
  have k1_1_2 : w1.cell? ⟨w.heap.size + 1, 2, none⟩ = some (.slice B m cp') := (hb1.cell (p := ⟨w.heap.size + 1, 2, none⟩) (by show w.heap.size + 1 < _; (try simp only [World.size_alloc]); omega)).trans (by first | rfl | (simp; done) | (simp [*]; done))
  have bl1_0 : w.heap.size < w1.heap.size := World.block_lt_of_cell? _ _ k1_0_0
  have bl1_1 : w.heap.size + 1 < w1.heap.size := World.block_lt_of_cell? _ _ k1_1_0
  clear hb1 hL1
  go_wp2_with (fail)
  refine (szm_t t1 t3).mono ?_
  rintro ee w2 ⟨rfl, hb2⟩
  have hL2 : Below w1.heap.size w1 w2 := by (repeat' (first | (with_reducible exact Below.refl _ _) | (with_reducible assumption) | (with_reducible refine Below.alloc ?_ ?_ _) | (with_reducible refine Below.drew ?_) | (with_reducible refine below_drewN ?_ _) | (with_reducible refine Below.setCell ?_ ?_ _) | (with_reducible refine chain ?_ (by assumption) ?_) | omega | (simp; done) | (simp; omega)))
  have hz2 := hb2.size
  (try simp only [World.size_alloc] at hz2)
  have hB2 : Below w.heap.size w w2 := chain hB1 hL2 hB1.size
  have k2_0_0 : w2.cell? ⟨w.heap.size, 0, none⟩ = some (.int .i64 r) := (hL2.cell (p := ⟨w.heap.size, 0, none⟩) (by show w.heap.size < w1.heap.size; omega)).trans k1_0_0
  have k2_0_1 : w2.cell? ⟨w.heap.size, 1, none⟩ = some (.int .i64 c) := (hL2.cell (p := ⟨w.heap.size, 1, none⟩) (by show w.heap.size < w1.heap.size; omega)).trans k1_0_1
  have k2_0_2 : w2.cell? ⟨w.heap.size, 2, none⟩ = some (.slice A n cp) := (hL2.cell (p := ⟨w.heap.size, 2, none⟩) (by show w.heap.size < w1.heap.size; omega)).trans k1_0_2
  have k2_1_0 : w2.cell? ⟨w.heap.size + 1, 0, none⟩ = some (.int .i64 r') := (hL2.cell (p := ⟨w.heap.size + 1, 0, none⟩) (by show w.heap.size + 1 < w1.heap.size; omega)).trans k1_1_0
  have k2_1_1 : w2.cell? ⟨w.heap.size + 1, 1, none⟩ = some (.int .i64 c') := (hL2.cell (p := ⟨w.heap.size + 1, 1, none⟩) (by show w.heap.size + 1 < w1.heap.size; omega)).trans k1_1_1
  have k2_1_2 : w2.cell? ⟨w.heap.size + 1, 2, none⟩ = some (.slice B m cp') := (hL2.cell (p := ⟨w.heap.size + 1, 2, none⟩) (by show w.heap.size + 1 < w1.heap.size; omega)).trans k1_1_2
  have bl2_0 : w.heap.size < w2.heap.size := World.block_lt_of_cell? _ _ k2_0_0
  have bl2_1 : w.heap.size + 1 < w2.heap.size := World.block_lt_of_cell? _ _ k2_1_0
  clear hb2 hL2
  clear k1_0_0 k1_0_1 k1_0_2 k1_1_0 k1_1_1 k1_1_2
  go_wp2_with (fail)
  go_cut [6, 7, 8] (fun s6 s7 s8 wx => CutG (s6 = .int .i64 K ∧ s7 = .bool b1 ∧ s8 = .bool b2) (wx.cell? ⟨w.heap.size, 0, none⟩ = some (.int .i64 r) ∧ wx.cell? ⟨w.heap.size, 1, none⟩ = some (.int .i64 c) ∧ wx.cell? ⟨w.heap.size, 2, none⟩ = some (.slice A n cp) ∧ wx.cell? ⟨w.heap.size + 1, 0, none⟩ = some (.int .i64 r') ∧ wx.cell? ⟨w.heap.size + 1, 1, none⟩ = some (.int .i64 c') ∧ wx.cell? ⟨w.heap.size + 1, 2, none⟩ = some (.slice B m cp') ∧ w2.heap.size ≤ wx.heap.size ∧ Below w.heap.size w wx))
  case first =>
    have yk2_0_0 : w2.drew.cell? ⟨w.heap.size, 0, none⟩ = some (.int .i64 r) := k2_0_0
    have yk2_0_1 : w2.drew.cell? ⟨w.heap.size, 1, none⟩ = some (.int .i64 c) := k2_0_1
    have yk2_0_2 : w2.drew.cell? ⟨w.heap.size, 2, none⟩ = some (.slice A n cp) := k2_0_2
    have yk2_1_0 : w2.drew.cell? ⟨w.heap.size + 1, 0, none⟩ = some (.int .i64 r') := k2_1_0
    have yk2_1_1 : w2.drew.cell? ⟨w.heap.size + 1, 1, none⟩ = some (.int .i64 c') := k2_1_1
    have yk2_1_2 : w2.drew.cell? ⟨w.heap.size + 1, 2, none⟩ = some (.slice B m cp') := k2_1_2
    have hBz := hB2.size
    go_region_held3 (fun w' => w'.cell? ⟨w.heap.size, 0, none⟩ = some (.int .i64 r) ∧ w'.cell? ⟨w.heap.size, 1, none⟩ = some (.int .i64 c) ∧ w'.cell? ⟨w.heap.size, 2, none⟩ = some (.slice A n cp) ∧ w'.cell? ⟨w.heap.size + 1, 0, none⟩ = some (.int .i64 r') ∧ w'.cell? ⟨w.heap.size + 1, 1, none⟩ = some (.int .i64 c') ∧ w'.cell? ⟨w.heap.size + 1, 2, none⟩ = some (.slice B m cp')) (first | (with_reducible exact ⟨yk2_0_0, yk2_0_1, yk2_0_2, yk2_1_0, yk2_1_1, yk2_1_2⟩) | (with_reducible exact ⟨k2_0_0, k2_0_1, k2_0_2, k2_1_0, k2_1_1, k2_1_2⟩) | (go_split_ands; with_reducible exact ⟨kc hv0 (by with_reducible assumption), kc hv0 (by with_reducible assumption), kc hv0 (by with_reducible assumption), kc hv0 (by with_reducible assumption), kc hv0 (by with_reducible assumption), kc hv0 (by with_reducible assumption)⟩) | (go_split_ands; with_reducible exact ⟨kc hv1 (by with_reducible assumption), kc hv1 (by with_reducible assumption), kc hv1 (by with_reducible assumption), kc hv1 (by with_reducible assumption), kc hv1 (by with_reducible assumption), kc hv1 (by with_reducible assumption)⟩) | (go_split_ands; with_reducible exact ⟨kc hv2 (by with_reducible assumption), kc hv2 (by with_reducible assumption), kc hv2 (by with_reducible assumption), kc hv2 (by with_reducible assumption), kc hv2 (by with_reducible assumption), kc hv2 (by with_reducible assumption)⟩)) (first | (go_at_call 29; ((with_reducible refine (tm (xs := xs) ?_ HN.out bn).mono ?_); (exact HA.out.mono (by (repeat' (first | (with_reducible exact Below.refl _ _) | (with_reducible assumption) | (with_reducible refine Below.alloc ?_ ?_ _) | (with_reducible refine Below.drew ?_) | (with_reducible refine below_drewN ?_ _) | (with_reducible refine Below.setCell ?_ ?_ _) | (with_reducible refine chain ?_ (by assumption) ?_) | omega | (simp; done) | (simp; omega))))); rintro ee v0 ⟨g0, rfl, hK0, hg0, hv0⟩; have hq0 := hv0.size; (try simp only [World.size_drew, World.size_alloc] at hq0))) | (go_at_call 29; ((with_reducible refine (tm (xs := ys) ?_ HM.out bm).mono ?_); (exact HB.out.mono (by (repeat' (first | (with_reducible exact Below.refl _ _) | (with_reducible assumption) | (with_reducible refine Below.alloc ?_ ?_ _) | (with_reducible refine Below.drew ?_) | (with_reducible refine below_drewN ?_ _) | (with_reducible refine Below.setCell ?_ ?_ _) | (with_reducible refine chain ?_ (by assumption) ?_) | omega | (simp; done) | (simp; omega))))); rintro ee v1 ⟨g1, rfl, hK1, hg1, hv1⟩; have hq1 := hv1.size; (try simp only [World.size_drew, World.size_alloc] at hq1))) | (go_at_call 52; ((with_reducible refine (HS.out _ _ _ ?_ ?_).mono ?_); (exact (by first | exact hK0.rd | exact (hK0.mono hv1).rd)); (exact (by first | exact hK1.rd | exact (hK1.mono hv0).rd)); rintro ee v2 ⟨rfl, hv2⟩; have hq2 := hv2.size; (try simp only [World.size_drew, World.size_alloc] at hq2))))
    all_goals (go_wp2_with fail; go_meet)
    all_goals go_split_ands
    all_goals (refine ⟨⟨rfl, rfl, rfl⟩, (by with_reducible assumption), (by with_reducible assumption), (by with_reducible assumption), (by with_reducible assumption), (by with_reducible assumption), (by with_reducible assumption), (by (try simp only [World.size_alloc, World.size_drew, World.size_setCell]); omega), (by (repeat' (first | (with_reducible exact Below.refl _ _) | (with_reducible assumption) | (with_reducible refine Below.alloc ?_ ?_ _) | (with_reducible refine Below.drew ?_) | (with_reducible refine below_drewN ?_ _) | (with_reducible refine Below.setCell ?_ ?_ _) | (with_reducible refine chain ?_ (by assumption) ?_) | omega | (simp; done) | (simp; omega))))⟩)
  case rest =>
    obtain ⟨w3, rfl⟩ : ∃ w3, w3 = wc := ⟨_, rfl⟩
    clear k2_0_0 k2_0_1 k2_0_2 k2_1_0 k2_1_1 k2_1_2
    obtain ⟨⟨rfl, rfl, rfl⟩, k3_0_0, k3_0_1, k3_0_2, k3_1_0, k3_1_1, k3_1_2, hz3, hB3⟩ := hcut
    have bl3_0 : w.heap.size < w3.heap.size := World.block_lt_of_cell? _ _ k3_0_0
    have bl3_1 : w.heap.size + 1 < w3.heap.size := World.block_lt_of_cell? _ _ k3_1_0
    go_wp2_with (fail)
    refine (tm (xs := xs) ?_ HN.out bn).mono ?_
    · exact HA.out.mono (by (repeat' (first | (with_reducible exact Below.refl _ _) | (with_reducible assumption) | (with_reducible refine Below.alloc ?_ ?_ _) | (with_reducible refine Below.drew ?_) | (with_reducible refine below_drewN ?_ _) | (with_reducible refine Below.setCell ?_ ?_ _) | (with_reducible refine chain ?_ (by assumption) ?_) | omega | (simp; done) | (simp; omega))))
    rintro ee w4 ⟨g4, rfl, hK4, hg4, hb4⟩
    have hL4 : Below w3.heap.size w3 w4 := by (repeat' (first | (with_reducible exact Below.refl _ _) | (with_reducible assumption) | (with_reducible refine Below.alloc ?_ ?_ _) | (with_reducible refine Below.drew ?_) | (with_reducible refine below_drewN ?_ _) | (with_reducible refine Below.setCell ?_ ?_ _) | (with_reducible refine chain ?_ (by assumption) ?_) | omega | (simp; done) | (simp; omega)))
    have hz4 := hb4.size
    (try simp only [World.size_alloc] at hz4)
    have hB4 : Below w.heap.size w w4 := chain hB3 hL4 hB3.size
    have k4_0_0 : w4.cell? ⟨w.heap.size, 0, none⟩ = some (.int .i64 r) := (hL4.cell (p := ⟨w.heap.size, 0, none⟩) (by show w.heap.size < w3.heap.size; omega)).trans k3_0_0
    have k4_0_1 : w4.cell? ⟨w.heap.size, 1, none⟩ = some (.int .i64 c) := (hL4.cell (p := ⟨w.heap.size, 1, none⟩) (by show w.heap.size < w3.heap.size; omega)).trans k3_0_1
    have k4_0_2 : w4.cell? ⟨w.heap.size, 2, none⟩ = some (.slice A n cp) := (hL4.cell (p := ⟨w.heap.size, 2, none⟩) (by show w.heap.size < w3.heap.size; omega)).trans k3_0_2
    have k4_1_0 : w4.cell? ⟨w.heap.size + 1, 0, none⟩ = some (.int .i64 r') := (hL4.cell (p := ⟨w.heap.size + 1, 0, none⟩) (by show w.heap.size + 1 < w3.heap.size; omega)).trans k3_1_0
    have k4_1_1 : w4.cell? ⟨w.heap.size + 1, 1, none⟩ = some (.int .i64 c') := (hL4.cell (p := ⟨w.heap.size + 1, 1, none⟩) (by show w.heap.size + 1 < w3.heap.size; omega)).trans k3_1_1
    have k4_1_2 : w4.cell? ⟨w.heap.size + 1, 2, none⟩ = some (.slice B m cp') := (hL4.cell (p := ⟨w.heap.size + 1, 2, none⟩) (by show w.heap.size + 1 < w3.heap.size; omega)).trans k3_1_2
    have bl4_0 : w.heap.size < w4.heap.size := World.block_lt_of_cell? _ _ k4_0_0
    have bl4_1 : w.heap.size + 1 < w4.heap.size := World.block_lt_of_cell? _ _ k4_1_0
    clear hb4 hL4
    clear k3_0_0 k3_0_1 k3_0_2 k3_1_0 k3_1_1 k3_1_2
    have HX4 := hid hK4
    clear hK4
    go_wp2_with (fail)
    refine (tm (xs := ys) ?_ HM.out bm).mono ?_
    · exact HB.out.mono (by (repeat' (first | (with_reducible exact Below.refl _ _) | (with_reducible assumption) | (with_reducible refine Below.alloc ?_ ?_ _) | (with_reducible refine Below.drew ?_) | (with_reducible refine below_drewN ?_ _) | (with_reducible refine Below.setCell ?_ ?_ _) | (with_reducible refine chain ?_ (by assumption) ?_) | omega | (simp; done) | (simp; omega))))
    rintro ee w5 ⟨g5, rfl, hK5, hg5, hb5⟩
    have hL5 : Below w4.heap.size w4 w5 := by (repeat' (first | (with_reducible exact Below.refl _ _) | (with_reducible assumption) | (with_reducible refine Below.alloc ?_ ?_ _) | (with_reducible refine Below.drew ?_) | (with_reducible refine below_drewN ?_ _) | (with_reducible refine Below.setCell ?_ ?_ _) | (with_reducible refine chain ?_ (by assumption) ?_) | omega | (simp; done) | (simp; omega)))
    have hz5 := hb5.size
    (try simp only [World.size_alloc] at hz5)
    have hB5 : Below w.heap.size w w5 := chain hB4 hL5 hB4.size
    have k5_0_0 : w5.cell? ⟨w.heap.size, 0, none⟩ = some (.int .i64 r) := (hL5.cell (p := ⟨w.heap.size, 0, none⟩) (by show w.heap.size < w4.heap.size; omega)).trans k4_0_0
    have k5_0_1 : w5.cell? ⟨w.heap.size, 1, none⟩ = some (.int .i64 c) := (hL5.cell (p := ⟨w.heap.size, 1, none⟩) (by show w.heap.size < w4.heap.size; omega)).trans k4_0_1
    have k5_0_2 : w5.cell? ⟨w.heap.size, 2, none⟩ = some (.slice A n cp) := (hL5.cell (p := ⟨w.heap.size, 2, none⟩) (by show w.heap.size < w4.heap.size; omega)).trans k4_0_2
    have k5_1_0 : w5.cell? ⟨w.heap.size + 1, 0, none⟩ = some (.int .i64 r') := (hL5.cell (p := ⟨w.heap.size + 1, 0, none⟩) (by show w.heap.size + 1 < w4.heap.size; omega)).trans k4_1_0
    have k5_1_1 : w5.cell? ⟨w.heap.size + 1, 1, none⟩ = some (.int .i64 c') := (hL5.cell (p := ⟨w.heap.size + 1, 1, none⟩) (by show w.heap.size + 1 < w4.heap.size; omega)).trans k4_1_1
    have k5_1_2 : w5.cell? ⟨w.heap.size + 1, 2, none⟩ = some (.slice B m cp') := (hL5.cell (p := ⟨w.heap.size + 1, 2, none⟩) (by show w.heap.size + 1 < w4.heap.size; omega)).trans k4_1_2
    have k5_2_0 : w5.cell? ⟨w4.heap.size, 0, none⟩ = some (.int .i64 r) := (hb5.cell (p := ⟨w4.heap.size, 0, none⟩) (by show w4.heap.size < _; (try simp only [World.size_alloc]); omega)).trans (by first | rfl | (simp; done) | (simp [*]; done))
    have k5_2_1 : w5.cell? ⟨w4.heap.size, 1, none⟩ = some (.int .i64 c) := (hb5.cell (p := ⟨w4.heap.size, 1, none⟩) (by show w4.heap.size < _; (try simp only [World.size_alloc]); omega)).trans (by first | rfl | (simp; done) | (simp [*]; done))
    have k5_2_2 : w5.cell? ⟨w4.heap.size, 2, none⟩ = some (.slice (some ⟨g4, 0, none⟩) n n) := (hb5.cell (p := ⟨w4.heap.size, 2, none⟩) (by show w4.heap.size < _; (try simp only [World.size_alloc]); omega)).trans (by first | rfl | (simp; done) | (simp [*]; done))
    have bl5_0 : w.heap.size < w5.heap.size := World.block_lt_of_cell? _ _ k5_0_0
    have bl5_1 : w.heap.size + 1 < w5.heap.size := World.block_lt_of_cell? _ _ k5_1_0
    have bl5_2 : w4.heap.size < w5.heap.size := World.block_lt_of_cell? _ _ k5_2_0
    have HX5 := hid (HX4.out.mono hL5)
    clear hb5 hL5
    clear k4_0_0 k4_0_1 k4_0_2 k4_1_0 k4_1_1 k4_1_2 HX4
    have HY5 := hid hK5
    clear hK5
    go_wp2_with (fail)
    refine (HI.out _ _ _ ?_ ?_).mono ?_
    · exact HX5.out.rd.mono (by (repeat' (first | (with_reducible exact Below.refl _ _) | (with_reducible assumption) | (with_reducible refine Below.alloc ?_ ?_ _) | (with_reducible refine Below.drew ?_) | (with_reducible refine below_drewN ?_ _) | (with_reducible refine Below.setCell ?_ ?_ _) | (with_reducible refine chain ?_ (by assumption) ?_) | omega | (simp; done) | (simp; omega))))
    · exact HY5.out.rd.mono (by (repeat' (first | (with_reducible exact Below.refl _ _) | (with_reducible assumption) | (with_reducible refine Below.alloc ?_ ?_ _) | (with_reducible refine Below.drew ?_) | (with_reducible refine below_drewN ?_ _) | (with_reducible refine Below.setCell ?_ ?_ _) | (with_reducible refine chain ?_ (by assumption) ?_) | omega | (simp; done) | (simp; omega))))
    rintro ee w6 ⟨rfl, hb6⟩
    have hL6 : Below w5.heap.size w5 w6 := by (repeat' (first | (with_reducible exact Below.refl _ _) | (with_reducible assumption) | (with_reducible refine Below.alloc ?_ ?_ _) | (with_reducible refine Below.drew ?_) | (with_reducible refine below_drewN ?_ _) | (with_reducible refine Below.setCell ?_ ?_ _) | (with_reducible refine chain ?_ (by assumption) ?_) | omega | (simp; done) | (simp; omega)))
    have hz6 := hb6.size
    (try simp only [World.size_alloc] at hz6)
    have hB6 : Below w.heap.size w w6 := chain hB5 hL6 hB5.size
    have k6_0_0 : w6.cell? ⟨w.heap.size, 0, none⟩ = some (.int .i64 r) := (hL6.cell (p := ⟨w.heap.size, 0, none⟩) (by show w.heap.size < w5.heap.size; omega)).trans k5_0_0
    have k6_0_1 : w6.cell? ⟨w.heap.size, 1, none⟩ = some (.int .i64 c) := (hL6.cell (p := ⟨w.heap.size, 1, none⟩) (by show w.heap.size < w5.heap.size; omega)).trans k5_0_1
    have k6_0_2 : w6.cell? ⟨w.heap.size, 2, none⟩ = some (.slice A n cp) := (hL6.cell (p := ⟨w.heap.size, 2, none⟩) (by show w.heap.size < w5.heap.size; omega)).trans k5_0_2
    have k6_1_0 : w6.cell? ⟨w.heap.size + 1, 0, none⟩ = some (.int .i64 r') := (hL6.cell (p := ⟨w.heap.size + 1, 0, none⟩) (by show w.heap.size + 1 < w5.heap.size; omega)).trans k5_1_0
    have k6_1_1 : w6.cell? ⟨w.heap.size + 1, 1, none⟩ = some (.int .i64 c') := (hL6.cell (p := ⟨w.heap.size + 1, 1, none⟩) (by show w.heap.size + 1 < w5.heap.size; omega)).trans k5_1_1
    have k6_1_2 : w6.cell? ⟨w.heap.size + 1, 2, none⟩ = some (.slice B m cp') := (hL6.cell (p := ⟨w.heap.size + 1, 2, none⟩) (by show w.heap.size + 1 < w5.heap.size; omega)).trans k5_1_2
    have k6_2_0 : w6.cell? ⟨w4.heap.size, 0, none⟩ = some (.int .i64 r) := (hL6.cell (p := ⟨w4.heap.size, 0, none⟩) (by show w4.heap.size < w5.heap.size; omega)).trans k5_2_0
    have k6_2_1 : w6.cell? ⟨w4.heap.size, 1, none⟩ = some (.int .i64 c) := (hL6.cell (p := ⟨w4.heap.size, 1, none⟩) (by show w4.heap.size < w5.heap.size; omega)).trans k5_2_1
    have k6_2_2 : w6.cell? ⟨w4.heap.size, 2, none⟩ = some (.slice (some ⟨g4, 0, none⟩) n n) := (hL6.cell (p := ⟨w4.heap.size, 2, none⟩) (by show w4.heap.size < w5.heap.size; omega)).trans k5_2_2
    have k6_3_0 : w6.cell? ⟨w5.heap.size, 0, none⟩ = some (.int .i64 r') := (hb6.cell (p := ⟨w5.heap.size, 0, none⟩) (by show w5.heap.size < _; (try simp only [World.size_alloc]); omega)).trans (by first | rfl | (simp; done) | (simp [*]; done))
    have k6_3_1 : w6.cell? ⟨w5.heap.size, 1, none⟩ = some (.int .i64 c') := (hb6.cell (p := ⟨w5.heap.size, 1, none⟩) (by show w5.heap.size < _; (try simp only [World.size_alloc]); omega)).trans (by first | rfl | (simp; done) | (simp [*]; done))
    have k6_3_2 : w6.cell? ⟨w5.heap.size, 2, none⟩ = some (.slice (some ⟨g5, 0, none⟩) m m) := (hb6.cell (p := ⟨w5.heap.size, 2, none⟩) (by show w5.heap.size < _; (try simp only [World.size_alloc]); omega)).trans (by first | rfl | (simp; done) | (simp [*]; done))
    have bl6_0 : w.heap.size < w6.heap.size := World.block_lt_of_cell? _ _ k6_0_0
    have bl6_1 : w.heap.size + 1 < w6.heap.size := World.block_lt_of_cell? _ _ k6_1_0
    have bl6_2 : w4.heap.size < w6.heap.size := World.block_lt_of_cell? _ _ k6_2_0
    have bl6_3 : w5.heap.size < w6.heap.size := World.block_lt_of_cell? _ _ k6_3_0
    have HX6 := hid (HX5.out.mono hL6)
    have HY6 := hid (HY5.out.mono hL6)
    clear hb6 hL6
    clear k5_0_0 k5_0_1 k5_0_2 k5_1_0 k5_1_1 k5_1_2 k5_2_0 k5_2_1 k5_2_2 HX5 HY5
    go_wp2_with (fail)
    go_cut [61] (fun s61 wx => CutG (s61 = .bool false) (wx.cell? ⟨w.heap.size, 0, none⟩ = some (.int .i64 r) ∧ wx.cell? ⟨w.heap.size, 1, none⟩ = some (.int .i64 c) ∧ wx.cell? ⟨w.heap.size, 2, none⟩ = some (.slice A n cp) ∧ wx.cell? ⟨w.heap.size + 1, 0, none⟩ = some (.int .i64 r') ∧ wx.cell? ⟨w.heap.size + 1, 1, none⟩ = some (.int .i64 c') ∧ wx.cell? ⟨w.heap.size + 1, 2, none⟩ = some (.slice B m cp') ∧ wx.cell? ⟨w4.heap.size, 0, none⟩ = some (.int .i64 r) ∧ wx.cell? ⟨w4.heap.size, 1, none⟩ = some (.int .i64 c) ∧ wx.cell? ⟨w4.heap.size, 2, none⟩ = some (.slice (some ⟨g4, 0, none⟩) n n) ∧ wx.cell? ⟨w5.heap.size, 0, none⟩ = some (.int .i64 r') ∧ wx.cell? ⟨w5.heap.size, 1, none⟩ = some (.int .i64 c') ∧ wx.cell? ⟨w5.heap.size, 2, none⟩ = some (.slice (some ⟨g5, 0, none⟩) m m) ∧ Hid (Bk wx g4 37 xs) ∧ Hid (Bk wx g5 37 ys) ∧ w6.heap.size ≤ wx.heap.size ∧ Below w.heap.size w wx))
    case first =>
      have yk6_0_0 : w6.drew.cell? ⟨w.heap.size, 0, none⟩ = some (.int .i64 r) := k6_0_0
      have yk6_0_1 : w6.drew.cell? ⟨w.heap.size, 1, none⟩ = some (.int .i64 c) := k6_0_1
      have yk6_0_2 : w6.drew.cell? ⟨w.heap.size, 2, none⟩ = some (.slice A n cp) := k6_0_2
      have yk6_1_0 : w6.drew.cell? ⟨w.heap.size + 1, 0, none⟩ = some (.int .i64 r') := k6_1_0
      have yk6_1_1 : w6.drew.cell? ⟨w.heap.size + 1, 1, none⟩ = some (.int .i64 c') := k6_1_1
      have yk6_1_2 : w6.drew.cell? ⟨w.heap.size + 1, 2, none⟩ = some (.slice B m cp') := k6_1_2
      have yk6_2_0 : w6.drew.cell? ⟨w4.heap.size, 0, none⟩ = some (.int .i64 r) := k6_2_0
      have yk6_2_1 : w6.drew.cell? ⟨w4.heap.size, 1, none⟩ = some (.int .i64 c) := k6_2_1
      have yk6_2_2 : w6.drew.cell? ⟨w4.heap.size, 2, none⟩ = some (.slice (some ⟨g4, 0, none⟩) n n) := k6_2_2
      have yk6_3_0 : w6.drew.cell? ⟨w5.heap.size, 0, none⟩ = some (.int .i64 r') := k6_3_0
      have yk6_3_1 : w6.drew.cell? ⟨w5.heap.size, 1, none⟩ = some (.int .i64 c') := k6_3_1
      have yk6_3_2 : w6.drew.cell? ⟨w5.heap.size, 2, none⟩ = some (.slice (some ⟨g5, 0, none⟩) m m) := k6_3_2
      have hBz := hB6.size
      go_region_held3 (fun w' => w'.cell? ⟨w.heap.size, 0, none⟩ = some (.int .i64 r) ∧ w'.cell? ⟨w.heap.size, 1, none⟩ = some (.int .i64 c) ∧ w'.cell? ⟨w.heap.size, 2, none⟩ = some (.slice A n cp) ∧ w'.cell? ⟨w.heap.size + 1, 0, none⟩ = some (.int .i64 r') ∧ w'.cell? ⟨w.heap.size + 1, 1, none⟩ = some (.int .i64 c') ∧ w'.cell? ⟨w.heap.size + 1, 2, none⟩ = some (.slice B m cp') ∧ w'.cell? ⟨w4.heap.size, 0, none⟩ = some (.int .i64 r) ∧ w'.cell? ⟨w4.heap.size, 1, none⟩ = some (.int .i64 c) ∧ w'.cell? ⟨w4.heap.size, 2, none⟩ = some (.slice (some ⟨g4, 0, none⟩) n n) ∧ w'.cell? ⟨w5.heap.size, 0, none⟩ = some (.int .i64 r') ∧ w'.cell? ⟨w5.heap.size, 1, none⟩ = some (.int .i64 c') ∧ w'.cell? ⟨w5.heap.size, 2, none⟩ = some (.slice (some ⟨g5, 0, none⟩) m m)) (first | (with_reducible exact ⟨yk6_0_0, yk6_0_1, yk6_0_2, yk6_1_0, yk6_1_1, yk6_1_2, yk6_2_0, yk6_2_1, yk6_2_2, yk6_3_0, yk6_3_1, yk6_3_2⟩) | (with_reducible exact ⟨k6_0_0, k6_0_1, k6_0_2, k6_1_0, k6_1_1, k6_1_2, k6_2_0, k6_2_1, k6_2_2, k6_3_0, k6_3_1, k6_3_2⟩) | (go_split_ands; with_reducible exact ⟨kc hv0 (by with_reducible assumption), kc hv0 (by with_reducible assumption), kc hv0 (by with_reducible assumption), kc hv0 (by with_reducible assumption), kc hv0 (by with_reducible assumption), kc hv0 (by with_reducible assumption), kc hv0 (by with_reducible assumption), kc hv0 (by with_reducible assumption), kc hv0 (by with_reducible assumption), kc hv0 (by with_reducible assumption), kc hv0 (by with_reducible assumption), kc hv0 (by with_reducible assumption)⟩) | (go_split_ands; with_reducible exact ⟨kc hv1 (by with_reducible assumption), kc hv1 (by with_reducible assumption), kc hv1 (by with_reducible assumption), kc hv1 (by with_reducible assumption), kc hv1 (by with_reducible assumption), kc hv1 (by with_reducible assumption), kc hv1 (by with_reducible assumption), kc hv1 (by with_reducible assumption), kc hv1 (by with_reducible assumption), kc hv1 (by with_reducible assumption), kc hv1 (by with_reducible assumption), kc hv1 (by with_reducible assumption)⟩)) (first | (go_at_call 29; ((with_reducible refine (tm (xs := xs) ?_ HN.out bn).mono ?_); (exact HA.out.mono (by (repeat' (first | (with_reducible exact Below.refl _ _) | (with_reducible assumption) | (with_reducible refine Below.alloc ?_ ?_ _) | (with_reducible refine Below.drew ?_) | (with_reducible refine below_drewN ?_ _) | (with_reducible refine Below.setCell ?_ ?_ _) | (with_reducible refine chain ?_ (by assumption) ?_) | omega | (simp; done) | (simp; omega))))); rintro ee v0 ⟨g7, rfl, hK0, hg7, hv0⟩; have hq0 := hv0.size; (try simp only [World.size_drew, World.size_alloc] at hq0))) | (go_at_call 30; ((with_reducible refine (eqm (xs := xs) ?_ ?_ HN.out bn).mono ?_); (exact HX6.out.rd.mono (by (repeat' (first | (with_reducible exact Below.refl _ _) | (with_reducible assumption) | (with_reducible refine Below.alloc ?_ ?_ _) | (with_reducible refine Below.drew ?_) | (with_reducible refine below_drewN ?_ _) | (with_reducible refine Below.setCell ?_ ?_ _) | (with_reducible refine chain ?_ (by assumption) ?_) | omega | (simp; done) | (simp; omega))))); (exact hK0.rd); rintro ee v1 ⟨rfl, hv1⟩; have hq1 := hv1.size; (try simp only [World.size_drew, World.size_alloc] at hq1))))
      all_goals (go_wp2_with fail; go_meet)
      all_goals go_split_ands
      all_goals (refine ⟨rfl, (by with_reducible assumption), (by with_reducible assumption), (by with_reducible assumption), (by with_reducible assumption), (by with_reducible assumption), (by with_reducible assumption), (by with_reducible assumption), (by with_reducible assumption), (by with_reducible assumption), (by with_reducible assumption), (by with_reducible assumption), (by with_reducible assumption), (by exact HX6.out.mono (by (repeat' (first | (with_reducible exact Below.refl _ _) | (with_reducible assumption) | (with_reducible refine Below.alloc ?_ ?_ _) | (with_reducible refine Below.drew ?_) | (with_reducible refine below_drewN ?_ _) | (with_reducible refine Below.setCell ?_ ?_ _) | (with_reducible refine chain ?_ (by assumption) ?_) | omega | (simp; done) | (simp; omega))))), (by exact HY6.out.mono (by (repeat' (first | (with_reducible exact Below.refl _ _) | (with_reducible assumption) | (with_reducible refine Below.alloc ?_ ?_ _) | (with_reducible refine Below.drew ?_) | (with_reducible refine below_drewN ?_ _) | (with_reducible refine Below.setCell ?_ ?_ _) | (with_reducible refine chain ?_ (by assumption) ?_) | omega | (simp; done) | (simp; omega))))), (by (try simp only [World.size_alloc, World.size_drew, World.size_setCell]); omega), (by (repeat' (first | (with_reducible exact Below.refl _ _) | (with_reducible assumption) | (with_reducible refine Below.alloc ?_ ?_ _) | (with_reducible refine Below.drew ?_) | (with_reducible refine below_drewN ?_ _) | (with_reducible refine Below.setCell ?_ ?_ _) | (with_reducible refine chain ?_ (by assumption) ?_) | omega | (simp; done) | (simp; omega))))⟩)
    case rest =>
      obtain ⟨w7, rfl⟩ : ∃ w7, w7 = wc := ⟨_, rfl⟩
      clear k6_0_0 k6_0_1 k6_0_2 k6_1_0 k6_1_1 k6_1_2 k6_2_0 k6_2_1 k6_2_2 k6_3_0 k6_3_1 k6_3_2 HX6 HY6
      obtain ⟨rfl, k7_0_0, k7_0_1, k7_0_2, k7_1_0, k7_1_1, k7_1_2, k7_2_0, k7_2_1, k7_2_2, k7_3_0, k7_3_1, k7_3_2, HX7, HY7, hz7, hB7⟩ := hcut
      have bl7_0 : w.heap.size < w7.heap.size := World.block_lt_of_cell? _ _ k7_0_0
      have bl7_1 : w.heap.size + 1 < w7.heap.size := World.block_lt_of_cell? _ _ k7_1_0
      have bl7_2 : w4.heap.size < w7.heap.size := World.block_lt_of_cell? _ _ k7_2_0
      have bl7_3 : w5.heap.size < w7.heap.size := World.block_lt_of_cell? _ _ k7_3_0
      go_wp2_with (fail)
      go_cut [66] (fun s66 wx => CutG (s66 = .bool false) (wx.cell? ⟨w.heap.size, 0, none⟩ = some (.int .i64 r) ∧ wx.cell? ⟨w.heap.size, 1, none⟩ = some (.int .i64 c) ∧ wx.cell? ⟨w.heap.size, 2, none⟩ = some (.slice A n cp) ∧ wx.cell? ⟨w.heap.size + 1, 0, none⟩ = some (.int .i64 r') ∧ wx.cell? ⟨w.heap.size + 1, 1, none⟩ = some (.int .i64 c') ∧ wx.cell? ⟨w.heap.size + 1, 2, none⟩ = some (.slice B m cp') ∧ wx.cell? ⟨w4.heap.size, 0, none⟩ = some (.int .i64 r) ∧ wx.cell? ⟨w4.heap.size, 1, none⟩ = some (.int .i64 c) ∧ wx.cell? ⟨w4.heap.size, 2, none⟩ = some (.slice (some ⟨g4, 0, none⟩) n n) ∧ wx.cell? ⟨w5.heap.size, 0, none⟩ = some (.int .i64 r') ∧ wx.cell? ⟨w5.heap.size, 1, none⟩ = some (.int .i64 c') ∧ wx.cell? ⟨w5.heap.size, 2, none⟩ = some (.slice (some ⟨g5, 0, none⟩) m m) ∧ Hid (Bk wx g4 37 xs) ∧ Hid (Bk wx g5 37 ys) ∧ w7.heap.size ≤ wx.heap.size ∧ Below w.heap.size w wx))
      case first =>
        have yk7_0_0 : w7.drew.cell? ⟨w.heap.size, 0, none⟩ = some (.int .i64 r) := k7_0_0
        have yk7_0_1 : w7.drew.cell? ⟨w.heap.size, 1, none⟩ = some (.int .i64 c) := k7_0_1
        have yk7_0_2 : w7.drew.cell? ⟨w.heap.size, 2, none⟩ = some (.slice A n cp) := k7_0_2
        have yk7_1_0 : w7.drew.cell? ⟨w.heap.size + 1, 0, none⟩ = some (.int .i64 r') := k7_1_0
        have yk7_1_1 : w7.drew.cell? ⟨w.heap.size + 1, 1, none⟩ = some (.int .i64 c') := k7_1_1
        have yk7_1_2 : w7.drew.cell? ⟨w.heap.size + 1, 2, none⟩ = some (.slice B m cp') := k7_1_2
        have yk7_2_0 : w7.drew.cell? ⟨w4.heap.size, 0, none⟩ = some (.int .i64 r) := k7_2_0
        have yk7_2_1 : w7.drew.cell? ⟨w4.heap.size, 1, none⟩ = some (.int .i64 c) := k7_2_1
        have yk7_2_2 : w7.drew.cell? ⟨w4.heap.size, 2, none⟩ = some (.slice (some ⟨g4, 0, none⟩) n n) := k7_2_2
        have yk7_3_0 : w7.drew.cell? ⟨w5.heap.size, 0, none⟩ = some (.int .i64 r') := k7_3_0
        have yk7_3_1 : w7.drew.cell? ⟨w5.heap.size, 1, none⟩ = some (.int .i64 c') := k7_3_1
        have yk7_3_2 : w7.drew.cell? ⟨w5.heap.size, 2, none⟩ = some (.slice (some ⟨g5, 0, none⟩) m m) := k7_3_2
        have hBz := hB7.size
        go_region_held3 (fun w' => w'.cell? ⟨w.heap.size, 0, none⟩ = some (.int .i64 r) ∧ w'.cell? ⟨w.heap.size, 1, none⟩ = some (.int .i64 c) ∧ w'.cell? ⟨w.heap.size, 2, none⟩ = some (.slice A n cp) ∧ w'.cell? ⟨w.heap.size + 1, 0, none⟩ = some (.int .i64 r') ∧ w'.cell? ⟨w.heap.size + 1, 1, none⟩ = some (.int .i64 c') ∧ w'.cell? ⟨w.heap.size + 1, 2, none⟩ = some (.slice B m cp') ∧ w'.cell? ⟨w4.heap.size, 0, none⟩ = some (.int .i64 r) ∧ w'.cell? ⟨w4.heap.size, 1, none⟩ = some (.int .i64 c) ∧ w'.cell? ⟨w4.heap.size, 2, none⟩ = some (.slice (some ⟨g4, 0, none⟩) n n) ∧ w'.cell? ⟨w5.heap.size, 0, none⟩ = some (.int .i64 r') ∧ w'.cell? ⟨w5.heap.size, 1, none⟩ = some (.int .i64 c') ∧ w'.cell? ⟨w5.heap.size, 2, none⟩ = some (.slice (some ⟨g5, 0, none⟩) m m)) (first | (with_reducible exact ⟨yk7_0_0, yk7_0_1, yk7_0_2, yk7_1_0, yk7_1_1, yk7_1_2, yk7_2_0, yk7_2_1, yk7_2_2, yk7_3_0, yk7_3_1, yk7_3_2⟩) | (with_reducible exact ⟨k7_0_0, k7_0_1, k7_0_2, k7_1_0, k7_1_1, k7_1_2, k7_2_0, k7_2_1, k7_2_2, k7_3_0, k7_3_1, k7_3_2⟩) | (go_split_ands; with_reducible exact ⟨kc hv0 (by with_reducible assumption), kc hv0 (by with_reducible assumption), kc hv0 (by with_reducible assumption), kc hv0 (by with_reducible assumption), kc hv0 (by with_reducible assumption), kc hv0 (by with_reducible assumption), kc hv0 (by with_reducible assumption), kc hv0 (by with_reducible assumption), kc hv0 (by with_reducible assumption), kc hv0 (by with_reducible assumption), kc hv0 (by with_reducible assumption), kc hv0 (by with_reducible assumption)⟩) | (go_split_ands; with_reducible exact ⟨kc hv1 (by with_reducible assumption), kc hv1 (by with_reducible assumption), kc hv1 (by with_reducible assumption), kc hv1 (by with_reducible assumption), kc hv1 (by with_reducible assumption), kc hv1 (by with_reducible assumption), kc hv1 (by with_reducible assumption), kc hv1 (by with_reducible assumption), kc hv1 (by with_reducible assumption), kc hv1 (by with_reducible assumption), kc hv1 (by with_reducible assumption), kc hv1 (by with_reducible assumption)⟩)) (first | (go_at_call 29; ((with_reducible refine (tm (xs := ys) ?_ HM.out bm).mono ?_); (exact HB.out.mono (by (repeat' (first | (with_reducible exact Below.refl _ _) | (with_reducible assumption) | (with_reducible refine Below.alloc ?_ ?_ _) | (with_reducible refine Below.drew ?_) | (with_reducible refine below_drewN ?_ _) | (with_reducible refine Below.setCell ?_ ?_ _) | (with_reducible refine chain ?_ (by assumption) ?_) | omega | (simp; done) | (simp; omega))))); rintro ee v0 ⟨g8, rfl, hK0, hg8, hv0⟩; have hq0 := hv0.size; (try simp only [World.size_drew, World.size_alloc] at hq0))) | (go_at_call 30; ((with_reducible refine (eqm (xs := ys) ?_ ?_ HM.out bm).mono ?_); (exact HY7.out.rd.mono (by (repeat' (first | (with_reducible exact Below.refl _ _) | (with_reducible assumption) | (with_reducible refine Below.alloc ?_ ?_ _) | (with_reducible refine Below.drew ?_) | (with_reducible refine below_drewN ?_ _) | (with_reducible refine Below.setCell ?_ ?_ _) | (with_reducible refine chain ?_ (by assumption) ?_) | omega | (simp; done) | (simp; omega))))); (exact hK0.rd); rintro ee v1 ⟨rfl, hv1⟩; have hq1 := hv1.size; (try simp only [World.size_drew, World.size_alloc] at hq1))))
        all_goals (go_wp2_with fail; go_meet)
        all_goals go_split_ands
        all_goals (refine ⟨rfl, (by with_reducible assumption), (by with_reducible assumption), (by with_reducible assumption), (by with_reducible assumption), (by with_reducible assumption), (by with_reducible assumption), (by with_reducible assumption), (by with_reducible assumption), (by with_reducible assumption), (by with_reducible assumption), (by with_reducible assumption), (by with_reducible assumption), (by exact HX7.out.mono (by (repeat' (first | (with_reducible exact Below.refl _ _) | (with_reducible assumption) | (with_reducible refine Below.alloc ?_ ?_ _) | (with_reducible refine Below.drew ?_) | (with_reducible refine below_drewN ?_ _) | (with_reducible refine Below.setCell ?_ ?_ _) | (with_reducible refine chain ?_ (by assumption) ?_) | omega | (simp; done) | (simp; omega))))), (by exact HY7.out.mono (by (repeat' (first | (with_reducible exact Below.refl _ _) | (with_reducible assumption) | (with_reducible refine Below.alloc ?_ ?_ _) | (with_reducible refine Below.drew ?_) | (with_reducible refine below_drewN ?_ _) | (with_reducible refine Below.setCell ?_ ?_ _) | (with_reducible refine chain ?_ (by assumption) ?_) | omega | (simp; done) | (simp; omega))))), (by (try simp only [World.size_alloc, World.size_drew, World.size_setCell]); omega), (by (repeat' (first | (with_reducible exact Below.refl _ _) | (with_reducible assumption) | (with_reducible refine Below.alloc ?_ ?_ _) | (with_reducible refine Below.drew ?_) | (with_reducible refine below_drewN ?_ _) | (with_reducible refine Below.setCell ?_ ?_ _) | (with_reducible refine chain ?_ (by assumption) ?_) | omega | (simp; done) | (simp; omega))))⟩)
      case rest =>
        obtain ⟨w8, rfl⟩ : ∃ w8, w8 = wc := ⟨_, rfl⟩
        clear k7_0_0 k7_0_1 k7_0_2 k7_1_0 k7_1_1 k7_1_2 k7_2_0 k7_2_1 k7_2_2 k7_3_0 k7_3_1 k7_3_2 HX7 HY7
        obtain ⟨rfl, k8_0_0, k8_0_1, k8_0_2, k8_1_0, k8_1_1, k8_1_2, k8_2_0, k8_2_1, k8_2_2, k8_3_0, k8_3_1, k8_3_2, HX8, HY8, hz8, hB8⟩ := hcut
        have bl8_0 : w.heap.size < w8.heap.size := World.block_lt_of_cell? _ _ k8_0_0
        have bl8_1 : w.heap.size + 1 < w8.heap.size := World.block_lt_of_cell? _ _ k8_1_0
        have bl8_2 : w4.heap.size < w8.heap.size := World.block_lt_of_cell? _ _ k8_2_0
        have bl8_3 : w5.heap.size < w8.heap.size := World.block_lt_of_cell? _ _ k8_3_0
        go_wp2_with (fail)
        go_ret
        exact ⟨rfl, hB8⟩

set_option maxRecDepth 100000 in
set_option maxHeartbeats 4000000 in
theorem bigEqualUpToPhase0 {r0 c0 : Int} {A0 : Option Addr} {n0 cp0 : Nat} {r1 c1 : Int} {A1 : Option Addr} {n1 cp1 : Nat} {w : World} (hb : 1048576 < (n0 : Int)) (hm : n0 ≤ maxLen) :
    Calls Try.prog 12 #[mv r0 c0 A0 n0 cp0, mv r1 c1 A1 n1 cp1] w fun ee w' => ee = .returned (.bool true) ∧ Below w.heap.size w w' := by
  have hu : n0 ≤ 9223372036854775807 := by unfold maxLen at hm; omega
  go_enter Try.func12, Try.ntmps12
  go_wp2_with (fail)
  refine (szm_f (n := n0) (by omega) (by omega) (by omega) hm).mono ?_
  rintro ee v ⟨rfl, hv⟩
  go_wp2_with (fail)
  go_ret
  refine ⟨rfl, ?_⟩
  (repeat' (first | (with_reducible exact Below.refl _ _) | (with_reducible assumption) | (with_reducible refine Below.alloc ?_ ?_ _) | (with_reducible refine Below.drew ?_) | (with_reducible refine below_drewN ?_ _) | (with_reducible refine Below.setCell ?_ ?_ _) | (with_reducible refine chain ?_ (by assumption) ?_) | omega | (simp; done) | (simp; omega)))

set_option maxRecDepth 100000 in
set_option maxHeartbeats 4000000 in
theorem bigEqualUpToPhase1 {r0 c0 : Int} {A0 : Option Addr} {n0 cp0 : Nat} {r1 c1 : Int} {A1 : Option Addr} {n1 cp1 : Nat} {w : World} (h0 : n0 ≤ 1048576) (h9 : 0 ≤ 1048576 - (n0 : Int)) (hb : 1048576 - (n0 : Int) < (n1 : Int)) (hm : n1 ≤ maxLen) :
    Calls Try.prog 12 #[mv r0 c0 A0 n0 cp0, mv r1 c1 A1 n1 cp1] w fun ee w' => ee = .returned (.bool true) ∧ Below w.heap.size w w' := by
  have hu : n1 ≤ 9223372036854775807 := by unfold maxLen at hm; omega
  go_enter Try.func12, Try.ntmps12
  go_wp2_with (fail)
  refine (szm_t (n := n0) (by omega) (by omega)).mono ?_
  rintro ee w1 ⟨rfl, hb1⟩
  obtain ⟨hc1, hf1, _⟩ := bcell hb1
  have hz1 := hb1.size
  (try simp at hz1)
  (try have hx10 : w.heap.size < w1.heap.size := (by omega))
  (try have hx11 : w.heap.size + 1 < w1.heap.size := (by omega))
  go_wp2_with (fail)
  refine (szm_f (n := n1) (by omega) (by omega) (by omega) hm).mono ?_
  rintro ee v ⟨rfl, hv⟩
  go_wp2_with (fail)
  go_ret
  refine ⟨rfl, ?_⟩
  (repeat' (first | (with_reducible exact Below.refl _ _) | (with_reducible assumption) | (with_reducible refine Below.alloc ?_ ?_ _) | (with_reducible refine Below.drew ?_) | (with_reducible refine below_drewN ?_ _) | (with_reducible refine Below.setCell ?_ ?_ _) | (with_reducible refine chain ?_ (by assumption) ?_) | omega | (simp; done) | (simp; omega)))

theorem fnExactEqualUpToPhase_walk {r c r' c' : Int} {A B : Option Addr} {n m cp cp' : Nat} {xs ys : List D5} {w : World} (hA : Rd w A xs) (hn : xs.length = n) (hm : n ≤ maxLen) (hB : Rd w B ys) (hn2 : ys.length = m) (hm2 : m ≤ maxLen) :
    Calls Try.prog 12 #[mv r c A n cp, mv r' c' B m cp'] w fun ee w' => ee = .returned (.bool true) ∧ Below w.heap.size w w' := by
  by_cases hb : n ≤ 1048576
  · by_cases hb2 : n + m ≤ 1048576
    · cases hok : okM r c n xs
      · exact lwEqualUpToPhase (K := 0) (b1 := false) (b2 := false) (fun g h w k1 k2 => up_s_v1 k1 k2 hn hn2 hok) (fun g h w k1 k2 => up_i_v1 k1 k2 hn hn2 hok) hA hB hn hn2 hb2
      cases hok2 : okM r' c' m ys
      · exact lwEqualUpToPhase (K := 0) (b1 := false) (b2 := false) (fun g h w k1 k2 => up_s_v2 k1 k2 hn hn2 hok hok2) (fun g h w k1 k2 => up_i_v2 k1 k2 hn hn2 hok hok2) hA hB hn hn2 hb2
      rcases ph_any (badK r c r' c' n xs ys) with ⟨K, k3, k4, k5⟩ | h8
      · exact lwEqualUpToPhase (K := (K : Int)) (b1 := true) (b2 := true) (fun g h w k1 k2 => (up_s_t k1 k2 hn hn2 hok hok2).mono fun ee w' q => ⟨q.1 K k3 k4 k5, q.2.2⟩) (fun g h w k1 k2 => (up_i_t k1 k2 hn hn2 hok hok2).mono fun ee w' q => ⟨q.1 K k3 k4 k5, q.2.2⟩) hA hB hn hn2 hb2
      · exact lwEqualUpToPhase (K := 0) (b1 := false) (b2 := true) (fun g h w k1 k2 => (up_s_t k1 k2 hn hn2 hok hok2).mono fun ee w' q => ⟨q.2.1 h8, q.2.2⟩) (fun g h w k1 k2 => (up_i_t k1 k2 hn hn2 hok hok2).mono fun ee w' q => ⟨q.2.1 h8, q.2.2⟩) hA hB hn hn2 hb2
    · exact bigEqualUpToPhase1 hb (by omega) (by omega) hm2
  · exact bigEqualUpToPhase0 (by omega) hm

end Go.Proofs.Ytncgccpkbneagaa
