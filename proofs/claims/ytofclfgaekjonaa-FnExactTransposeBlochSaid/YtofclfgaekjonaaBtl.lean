/- TransposeBloch: the law. -/
import Derived.Test.YtofclfgaekjonaaBts
namespace Go.Proofs.Ytofclfgaekjonaa
open Go.RowKit RM
set_option linter.unusedVariables false
set_option linter.unusedSimpArgs false
attribute [local irreducible] World.setCell

set_option maxRecDepth 100000 in
set_option maxHeartbeats 8000000 in
theorem lwTransposeBloch {A : Option Addr} {n cp : Nat} {xs : List D5} {k : Nat} {zs : List D5} {ok : Bool} {w : World} (hS : ∀ (g : Nat) (w : World), Rd w (some ⟨g, 0, none⟩) xs → Calls Try.prog 36 #[bv (some ⟨g, 0, none⟩) n n] w fun ee w' => ∃ A cp, ee = .returned (bt A k cp ok) ∧ Rd w' A zs ∧ Below w.heap.size w w') (hI : ∀ (g : Nat) (w : World), Rd w (some ⟨g, 0, none⟩) xs → Calls Try.prog 37 #[bv (some ⟨g, 0, none⟩) n n] w fun ee w' => ∃ A cp, ee = .returned (bt A k cp ok) ∧ OwX w' w.heap.size 99 A zs ∧ Below w.heap.size w w') (hz : zs.length = k) (hk : k ≤ 1048576) (hA : Rd w A xs) (hn : xs.length = n) (hb : n ≤ 1048576) :
    Calls Try.prog 8 #[bv A n cp] w fun ee w' => ee = .returned (.bool true) ∧ Below w.heap.size w w' := by
  have HA := hid hA
  have HN := hid hn
  have HS := hid hS
  have HI := hid hI
  have HZ := hid hz
  have s0 : ¬ (1048576 - (n : Int) < 0) := by omega
  have s1 : (n : Int) ≤ 1048576 := by omega
  have s2 : 0 ≤ 1048576 - (n : Int) := by omega
  have u0 : ¬ (1 + 5 * (k : Int) < 0) := by omega
  have u1 : 0 ≤ 1 + 5 * (k : Int) := by omega
  have u2 : ¬ (1 + 5 * (n : Int) < 0) := by omega
  have u3 : 0 ≤ 1 + 5 * (n : Int) := by omega
  clear hA hn hS hI hz
  go_enter Try.func8, Try.ntmps8
  go_wp2_with (fail)
  refine (szb_t s1 (by decide)).mono ?_
  rintro ee w1 ⟨rfl, hb1⟩
  have hL1 : Below w.heap.size w w1 := by (repeat' (first | (with_reducible exact Below.refl _ _) | (with_reducible assumption) | (with_reducible refine Below.alloc ?_ ?_ _) | (with_reducible refine Below.drew ?_) | (with_reducible refine below_drewN ?_ _) | (with_reducible refine Below.setCell ?_ ?_ _) | (with_reducible refine chain ?_ (by assumption) ?_) | omega | (simp; done) | (simp; omega)))
  have hz1 := hb1.size
  (try simp only [World.size_alloc] at hz1)
  have hB1 : Below w.heap.size w w1 := hL1
  have k1_0_0 : w1.cell? ⟨w.heap.size, 0, none⟩ = some (.slice A n cp) := (hb1.cell (p := ⟨w.heap.size, 0, none⟩) (by show w.heap.size < _; (try simp only [World.size_alloc]); omega)).trans (by first | rfl | (simp; done) | (simp [*]; done))
  have bl1_0 : w.heap.size < w1.heap.size := World.block_lt_of_cell? _ _ k1_0_0
  clear hb1 hL1
  go_wp2_with (fail)
  refine (tb (xs := xs) ?_ HN.out hb).mono ?_
  · exact HA.out.mono (by (repeat' (first | (with_reducible exact Below.refl _ _) | (with_reducible assumption) | (with_reducible refine Below.alloc ?_ ?_ _) | (with_reducible refine Below.drew ?_) | (with_reducible refine below_drewN ?_ _) | (with_reducible refine Below.setCell ?_ ?_ _) | (with_reducible refine chain ?_ (by assumption) ?_) | omega | (simp; done) | (simp; omega))))
  rintro ee w2 ⟨g2, rfl, hK2, hg2, hb2⟩
  have hL2 : Below w1.heap.size w1 w2 := by (repeat' (first | (with_reducible exact Below.refl _ _) | (with_reducible assumption) | (with_reducible refine Below.alloc ?_ ?_ _) | (with_reducible refine Below.drew ?_) | (with_reducible refine below_drewN ?_ _) | (with_reducible refine Below.setCell ?_ ?_ _) | (with_reducible refine chain ?_ (by assumption) ?_) | omega | (simp; done) | (simp; omega)))
  have hz2 := hb2.size
  (try simp only [World.size_alloc] at hz2)
  have hB2 : Below w.heap.size w w2 := chain hB1 hL2 hB1.size
  have k2_0_0 : w2.cell? ⟨w.heap.size, 0, none⟩ = some (.slice A n cp) := (hL2.cell (p := ⟨w.heap.size, 0, none⟩) (by show w.heap.size < w1.heap.size; omega)).trans k1_0_0
  have bl2_0 : w.heap.size < w2.heap.size := World.block_lt_of_cell? _ _ k2_0_0
  clear hb2 hL2
  clear k1_0_0
  go_wp2_with (fail)
  refine (HS.out _ _ ?_).mono ?_
  · exact hK2.rd
  rintro ee w3 ⟨A3, cp3, rfl, hR3, hb3⟩
  have hL3 : Below w2.heap.size w2 w3 := by (repeat' (first | (with_reducible exact Below.refl _ _) | (with_reducible assumption) | (with_reducible refine Below.alloc ?_ ?_ _) | (with_reducible refine Below.drew ?_) | (with_reducible refine below_drewN ?_ _) | (with_reducible refine Below.setCell ?_ ?_ _) | (with_reducible refine chain ?_ (by assumption) ?_) | omega | (simp; done) | (simp; omega)))
  have hz3 := hb3.size
  (try simp only [World.size_alloc] at hz3)
  have hB3 : Below w.heap.size w w3 := chain hB2 hL3 hB2.size
  have k3_0_0 : w3.cell? ⟨w.heap.size, 0, none⟩ = some (.slice A n cp) := (hL3.cell (p := ⟨w.heap.size, 0, none⟩) (by show w.heap.size < w2.heap.size; omega)).trans k2_0_0
  have bl3_0 : w.heap.size < w3.heap.size := World.block_lt_of_cell? _ _ k3_0_0
  clear hb3 hL3
  clear k2_0_0
  clear hK2
  have HW3 : Hid (RdB w3 w3.heap.size A3 zs) := hR3.b (Nat.le_refl _)
  clear hR3
  go_wp2_with (fail)
  refine (tb (xs := xs) ?_ HN.out hb).mono ?_
  · exact HA.out.mono (by (repeat' (first | (with_reducible exact Below.refl _ _) | (with_reducible assumption) | (with_reducible refine Below.alloc ?_ ?_ _) | (with_reducible refine Below.drew ?_) | (with_reducible refine below_drewN ?_ _) | (with_reducible refine Below.setCell ?_ ?_ _) | (with_reducible refine chain ?_ (by assumption) ?_) | omega | (simp; done) | (simp; omega))))
  rintro ee w4 ⟨g4, rfl, hK4, hg4, hb4⟩
  have hL4 : Below w3.heap.size w3 w4 := by (repeat' (first | (with_reducible exact Below.refl _ _) | (with_reducible assumption) | (with_reducible refine Below.alloc ?_ ?_ _) | (with_reducible refine Below.drew ?_) | (with_reducible refine below_drewN ?_ _) | (with_reducible refine Below.setCell ?_ ?_ _) | (with_reducible refine chain ?_ (by assumption) ?_) | omega | (simp; done) | (simp; omega)))
  have hz4 := hb4.size
  (try simp only [World.size_alloc] at hz4)
  have hB4 : Below w.heap.size w w4 := chain hB3 hL4 hB3.size
  have k4_0_0 : w4.cell? ⟨w.heap.size, 0, none⟩ = some (.slice A n cp) := (hL4.cell (p := ⟨w.heap.size, 0, none⟩) (by show w.heap.size < w3.heap.size; omega)).trans k3_0_0
  have k4_1_0 : w4.cell? ⟨w3.heap.size, 0, none⟩ = some (.slice A3 k cp3) := (hb4.cell (p := ⟨w3.heap.size, 0, none⟩) (by show w3.heap.size < _; (try simp only [World.size_alloc]); omega)).trans (by first | rfl | (simp; done) | (simp [*]; done))
  have bl4_0 : w.heap.size < w4.heap.size := World.block_lt_of_cell? _ _ k4_0_0
  have bl4_1 : w3.heap.size < w4.heap.size := World.block_lt_of_cell? _ _ k4_1_0
  have HW4 := hid (HW3.out.mono hL4)
  clear hb4 hL4
  clear k3_0_0 HW3
  (try simp only [World.size_alloc] at hg4)
  have HX4 : Hid (Ow w4 (w3.heap.size + 1) 99 (some ⟨g4, 0, none⟩) xs) := hK4.ow (by omega)
  clear hK4
  have hr_X := HX4.out.row
  go_wp2_with (fail)
  refine (HI.out _ _ ?_).mono ?_
  · exact HX4.out.rd.mono (by (repeat' (first | (with_reducible exact Below.refl _ _) | (with_reducible assumption) | (with_reducible refine Below.alloc ?_ ?_ _) | (with_reducible refine Below.drew ?_) | (with_reducible refine below_drewN ?_ _) | (with_reducible refine Below.setCell ?_ ?_ _) | (with_reducible refine chain ?_ (by assumption) ?_) | omega | (simp; done) | (simp; omega))))
  rintro ee w5 ⟨A5, cp5, rfl, hO5, hb5⟩
  have hL5 : Below w4.heap.size w4 w5 := by (repeat' (first | (with_reducible exact Below.refl _ _) | (with_reducible assumption) | (with_reducible refine Below.alloc ?_ ?_ _) | (with_reducible refine Below.drew ?_) | (with_reducible refine below_drewN ?_ _) | (with_reducible refine Below.setCell ?_ ?_ _) | (with_reducible refine chain ?_ (by assumption) ?_) | omega | (simp; done) | (simp; omega)))
  have hz5 := hb5.size
  (try simp only [World.size_alloc] at hz5)
  have hB5 : Below w.heap.size w w5 := chain hB4 hL5 hB4.size
  have k5_0_0 : w5.cell? ⟨w.heap.size, 0, none⟩ = some (.slice A n cp) := (hL5.cell (p := ⟨w.heap.size, 0, none⟩) (by show w.heap.size < w4.heap.size; omega)).trans k4_0_0
  have k5_1_0 : w5.cell? ⟨w3.heap.size, 0, none⟩ = some (.slice A3 k cp3) := (hL5.cell (p := ⟨w3.heap.size, 0, none⟩) (by show w3.heap.size < w4.heap.size; omega)).trans k4_1_0
  have k5_2_0 : w5.cell? ⟨w4.heap.size, 0, none⟩ = some (.slice (some ⟨g4, 0, none⟩) n n) := (hb5.cell (p := ⟨w4.heap.size, 0, none⟩) (by show w4.heap.size < _; (try simp only [World.size_alloc]); omega)).trans (by first | rfl | (simp; done) | (simp [*]; done))
  have bl5_0 : w.heap.size < w5.heap.size := World.block_lt_of_cell? _ _ k5_0_0
  have bl5_1 : w3.heap.size < w5.heap.size := World.block_lt_of_cell? _ _ k5_1_0
  have bl5_2 : w4.heap.size < w5.heap.size := World.block_lt_of_cell? _ _ k5_2_0
  have HW5 := hid (HW4.out.mono hL5)
  have HX5 := hid (HX4.out.mono hL5)
  clear hb5 hL5
  clear k4_0_0 k4_1_0 HW4 HX4
  (try simp only [World.size_alloc] at hO5)
  have HG5 : Hid (OwX w5 (w4.heap.size + 1) 99 A5 zs) := hO5.dn (by omega)
  clear hO5
  have hr_G := HG5.out.row
  go_wp2_with (fail)
  refine (eqb (xs := zs) ?_ ?_ HZ.out hk).mono ?_
  · exact HG5.out.rd.mono (by (repeat' (first | (with_reducible exact Below.refl _ _) | (with_reducible assumption) | (with_reducible refine Below.alloc ?_ ?_ _) | (with_reducible refine Below.drew ?_) | (with_reducible refine below_drewN ?_ _) | (with_reducible refine Below.setCell ?_ ?_ _) | (with_reducible refine chain ?_ (by assumption) ?_) | omega | (simp; done) | (simp; omega))))
  · exact HW5.out.rd.mono (by (repeat' (first | (with_reducible exact Below.refl _ _) | (with_reducible assumption) | (with_reducible refine Below.alloc ?_ ?_ _) | (with_reducible refine Below.drew ?_) | (with_reducible refine below_drewN ?_ _) | (with_reducible refine Below.setCell ?_ ?_ _) | (with_reducible refine chain ?_ (by assumption) ?_) | omega | (simp; done) | (simp; omega))))
  rintro ee w6 ⟨rfl, hb6⟩
  have hL6 : Below w5.heap.size w5 w6 := by (repeat' (first | (with_reducible exact Below.refl _ _) | (with_reducible assumption) | (with_reducible refine Below.alloc ?_ ?_ _) | (with_reducible refine Below.drew ?_) | (with_reducible refine below_drewN ?_ _) | (with_reducible refine Below.setCell ?_ ?_ _) | (with_reducible refine chain ?_ (by assumption) ?_) | omega | (simp; done) | (simp; omega)))
  have hz6 := hb6.size
  (try simp only [World.size_alloc] at hz6)
  have hB6 : Below w.heap.size w w6 := chain hB5 hL6 hB5.size
  have k6_0_0 : w6.cell? ⟨w.heap.size, 0, none⟩ = some (.slice A n cp) := (hL6.cell (p := ⟨w.heap.size, 0, none⟩) (by show w.heap.size < w5.heap.size; omega)).trans k5_0_0
  have k6_1_0 : w6.cell? ⟨w3.heap.size, 0, none⟩ = some (.slice A3 k cp3) := (hL6.cell (p := ⟨w3.heap.size, 0, none⟩) (by show w3.heap.size < w5.heap.size; omega)).trans k5_1_0
  have k6_2_0 : w6.cell? ⟨w4.heap.size, 0, none⟩ = some (.slice (some ⟨g4, 0, none⟩) n n) := (hL6.cell (p := ⟨w4.heap.size, 0, none⟩) (by show w4.heap.size < w5.heap.size; omega)).trans k5_2_0
  have k6_3_0 : w6.cell? ⟨w5.heap.size, 0, none⟩ = some (.slice A5 k cp5) := (hb6.cell (p := ⟨w5.heap.size, 0, none⟩) (by show w5.heap.size < _; (try simp only [World.size_alloc]); omega)).trans (by first | rfl | (simp; done) | (simp [*]; done))
  have bl6_0 : w.heap.size < w6.heap.size := World.block_lt_of_cell? _ _ k6_0_0
  have bl6_1 : w3.heap.size < w6.heap.size := World.block_lt_of_cell? _ _ k6_1_0
  have bl6_2 : w4.heap.size < w6.heap.size := World.block_lt_of_cell? _ _ k6_2_0
  have bl6_3 : w5.heap.size < w6.heap.size := World.block_lt_of_cell? _ _ k6_3_0
  have HW6 := hid (HW5.out.mono hL6)
  have HX6 := hid (HX5.out.mono hL6)
  have HG6 := hid (HG5.out.mono hL6)
  clear hb6 hL6
  clear k5_0_0 k5_1_0 k5_2_0 HW5 HX5 HG5
  go_wp2_with (fail)
  go_cut [45] (fun s45 wx => CutG (s45 = .bool false) (wx.cell? ⟨w.heap.size, 0, none⟩ = some (.slice A n cp) ∧ wx.cell? ⟨w3.heap.size, 0, none⟩ = some (.slice A3 k cp3) ∧ wx.cell? ⟨w4.heap.size, 0, none⟩ = some (.slice (some ⟨g4, 0, none⟩) n n) ∧ wx.cell? ⟨w5.heap.size, 0, none⟩ = some (.slice A5 k cp5) ∧ Hid (RdB wx w3.heap.size A3 zs) ∧ Hid (Ow wx (w3.heap.size + 1) 99 (some ⟨g4, 0, none⟩) xs) ∧ Hid (OwX wx (w4.heap.size + 1) 99 A5 zs) ∧ w6.heap.size ≤ wx.heap.size ∧ Below w.heap.size w wx))
  case first =>
    have yk6_0_0 : w6.drew.cell? ⟨w.heap.size, 0, none⟩ = some (.slice A n cp) := k6_0_0
    have yk6_1_0 : w6.drew.cell? ⟨w3.heap.size, 0, none⟩ = some (.slice A3 k cp3) := k6_1_0
    have yk6_2_0 : w6.drew.cell? ⟨w4.heap.size, 0, none⟩ = some (.slice (some ⟨g4, 0, none⟩) n n) := k6_2_0
    have yk6_3_0 : w6.drew.cell? ⟨w5.heap.size, 0, none⟩ = some (.slice A5 k cp5) := k6_3_0
    have hBz := hB6.size
    go_region_held3 (fun w' => w'.cell? ⟨w.heap.size, 0, none⟩ = some (.slice A n cp) ∧ w'.cell? ⟨w3.heap.size, 0, none⟩ = some (.slice A3 k cp3) ∧ w'.cell? ⟨w4.heap.size, 0, none⟩ = some (.slice (some ⟨g4, 0, none⟩) n n) ∧ w'.cell? ⟨w5.heap.size, 0, none⟩ = some (.slice A5 k cp5)) (first | (with_reducible exact ⟨yk6_0_0, yk6_1_0, yk6_2_0, yk6_3_0⟩) | (with_reducible exact ⟨k6_0_0, k6_1_0, k6_2_0, k6_3_0⟩) | (go_split_ands; with_reducible exact ⟨kc hv0 (by with_reducible assumption), kc hv0 (by with_reducible assumption), kc hv0 (by with_reducible assumption), kc hv0 (by with_reducible assumption)⟩) | (go_split_ands; with_reducible exact ⟨kc hv1 (by with_reducible assumption), kc hv1 (by with_reducible assumption), kc hv1 (by with_reducible assumption), kc hv1 (by with_reducible assumption)⟩)) (first | (go_at_call 27; ((with_reducible refine (tb (xs := xs) ?_ HN.out hb).mono ?_); (exact HA.out.mono (by (repeat' (first | (with_reducible exact Below.refl _ _) | (with_reducible assumption) | (with_reducible refine Below.alloc ?_ ?_ _) | (with_reducible refine Below.drew ?_) | (with_reducible refine below_drewN ?_ _) | (with_reducible refine Below.setCell ?_ ?_ _) | (with_reducible refine chain ?_ (by assumption) ?_) | omega | (simp; done) | (simp; omega))))); rintro ee v0 ⟨g7, rfl, hK0, hg7, hv0⟩; have hq0 := hv0.size; (try simp only [World.size_drew, World.size_alloc] at hq0))) | (go_at_call 29; ((with_reducible refine (eqb (xs := xs) ?_ ?_ HN.out hb).mono ?_); (exact HX6.out.rd.mono (by (repeat' (first | (with_reducible exact Below.refl _ _) | (with_reducible assumption) | (with_reducible refine Below.alloc ?_ ?_ _) | (with_reducible refine Below.drew ?_) | (with_reducible refine below_drewN ?_ _) | (with_reducible refine Below.setCell ?_ ?_ _) | (with_reducible refine chain ?_ (by assumption) ?_) | omega | (simp; done) | (simp; omega))))); (exact hK0.rd); rintro ee v1 ⟨rfl, hv1⟩; have hq1 := hv1.size; (try simp only [World.size_drew, World.size_alloc] at hq1))))
    all_goals (go_wp2_with fail; go_meet)
    all_goals go_split_ands
    all_goals (refine ⟨rfl, (by with_reducible assumption), (by with_reducible assumption), (by with_reducible assumption), (by with_reducible assumption), (by exact HW6.out.mono (by (repeat' (first | (with_reducible exact Below.refl _ _) | (with_reducible assumption) | (with_reducible refine Below.alloc ?_ ?_ _) | (with_reducible refine Below.drew ?_) | (with_reducible refine below_drewN ?_ _) | (with_reducible refine Below.setCell ?_ ?_ _) | (with_reducible refine chain ?_ (by assumption) ?_) | omega | (simp; done) | (simp; omega))))), (by exact HX6.out.mono (by (repeat' (first | (with_reducible exact Below.refl _ _) | (with_reducible assumption) | (with_reducible refine Below.alloc ?_ ?_ _) | (with_reducible refine Below.drew ?_) | (with_reducible refine below_drewN ?_ _) | (with_reducible refine Below.setCell ?_ ?_ _) | (with_reducible refine chain ?_ (by assumption) ?_) | omega | (simp; done) | (simp; omega))))), (by exact HG6.out.mono (by (repeat' (first | (with_reducible exact Below.refl _ _) | (with_reducible assumption) | (with_reducible refine Below.alloc ?_ ?_ _) | (with_reducible refine Below.drew ?_) | (with_reducible refine below_drewN ?_ _) | (with_reducible refine Below.setCell ?_ ?_ _) | (with_reducible refine chain ?_ (by assumption) ?_) | omega | (simp; done) | (simp; omega))))), (by (try simp only [World.size_alloc, World.size_drew, World.size_setCell]); omega), (by (repeat' (first | (with_reducible exact Below.refl _ _) | (with_reducible assumption) | (with_reducible refine Below.alloc ?_ ?_ _) | (with_reducible refine Below.drew ?_) | (with_reducible refine below_drewN ?_ _) | (with_reducible refine Below.setCell ?_ ?_ _) | (with_reducible refine chain ?_ (by assumption) ?_) | omega | (simp; done) | (simp; omega))))⟩)
  case rest =>
    obtain ⟨w7, rfl⟩ : ∃ w7, w7 = wc := ⟨_, rfl⟩
    clear k6_0_0 k6_1_0 k6_2_0 k6_3_0 HW6 HX6 HG6
    obtain ⟨rfl, k7_0_0, k7_1_0, k7_2_0, k7_3_0, HW7, HX7, HG7, hz7, hB7⟩ := hcut
    have bl7_0 : w.heap.size < w7.heap.size := World.block_lt_of_cell? _ _ k7_0_0
    have bl7_1 : w3.heap.size < w7.heap.size := World.block_lt_of_cell? _ _ k7_1_0
    have bl7_2 : w4.heap.size < w7.heap.size := World.block_lt_of_cell? _ _ k7_2_0
    have bl7_3 : w5.heap.size < w7.heap.size := World.block_lt_of_cell? _ _ k7_3_0
    go_wp2_with (fail)
    refine (mkb (B := w3.heap.size + 1) (xs := xs) ?_ HN.out hb (by decide) (by decide)).mono ?_
    · exact HX7.out
    rintro ee w8 ⟨rfl, hO8, hG8⟩
    have hz8 := hG8.size
    have hB8 : Below w.heap.size w w8 := Below.grown hB7 hG8 hB7.size (fun r hr => by have := hr_X r hr; omega)
    have k8_0_0 : w8.cell? ⟨w.heap.size, 0, none⟩ = some (.slice A n cp) := hG8.cell k7_0_0 (fun e => by have := hr_X (w.heap.size) e.symm; omega)
    have k8_1_0 : w8.cell? ⟨w3.heap.size, 0, none⟩ = some (.slice A3 k cp3) := hG8.cell k7_1_0 (fun e => by have := hr_X (w3.heap.size) e.symm; omega)
    have k8_2_0 : w8.cell? ⟨w4.heap.size, 0, none⟩ = some (.slice (some ⟨g4, 0, none⟩) n n) := hG8.cell k7_2_0 (fun e => by have := hr_X (w4.heap.size) e.symm; omega)
    have k8_3_0 : w8.cell? ⟨w5.heap.size, 0, none⟩ = some (.slice A5 k cp5) := hG8.cell k7_3_0 (fun e => by have := hr_X (w5.heap.size) e.symm; omega)
    have HW8 := hid (HW7.out.grown hG8 (fun r hr => by have := hr_X r hr; omega))
    have HG8 := hid (HG7.out.grown hG8 (fun r hr => by have := hr_X r hr; omega))
    have bl8_0 : w.heap.size < w8.heap.size := World.block_lt_of_cell? _ _ k8_0_0
    have bl8_1 : w3.heap.size < w8.heap.size := World.block_lt_of_cell? _ _ k8_1_0
    have bl8_2 : w4.heap.size < w8.heap.size := World.block_lt_of_cell? _ _ k8_2_0
    have bl8_3 : w5.heap.size < w8.heap.size := World.block_lt_of_cell? _ _ k8_3_0
    have HX8 := hid hO8
    clear hO8 hG8
    clear k7_0_0 k7_1_0 k7_2_0 k7_3_0 HW7 HG7 HX7
    clear HX8
    go_wp2_with (fail)
    refine (eqb (xs := zs) ?_ ?_ HZ.out hk).mono ?_
    · exact HG8.out.rd.mono (by (repeat' (first | (with_reducible exact Below.refl _ _) | (with_reducible assumption) | (with_reducible refine Below.alloc ?_ ?_ _) | (with_reducible refine Below.drew ?_) | (with_reducible refine below_drewN ?_ _) | (with_reducible refine Below.setCell ?_ ?_ _) | (with_reducible refine chain ?_ (by assumption) ?_) | omega | (simp; done) | (simp; omega))))
    · exact HW8.out.rd.mono (by (repeat' (first | (with_reducible exact Below.refl _ _) | (with_reducible assumption) | (with_reducible refine Below.alloc ?_ ?_ _) | (with_reducible refine Below.drew ?_) | (with_reducible refine below_drewN ?_ _) | (with_reducible refine Below.setCell ?_ ?_ _) | (with_reducible refine chain ?_ (by assumption) ?_) | omega | (simp; done) | (simp; omega))))
    rintro ee w9 ⟨rfl, hb9⟩
    have hL9 : Below w8.heap.size w8 w9 := by (repeat' (first | (with_reducible exact Below.refl _ _) | (with_reducible assumption) | (with_reducible refine Below.alloc ?_ ?_ _) | (with_reducible refine Below.drew ?_) | (with_reducible refine below_drewN ?_ _) | (with_reducible refine Below.setCell ?_ ?_ _) | (with_reducible refine chain ?_ (by assumption) ?_) | omega | (simp; done) | (simp; omega)))
    have hz9 := hb9.size
    (try simp only [World.size_alloc] at hz9)
    have hB9 : Below w.heap.size w w9 := chain hB8 hL9 hB8.size
    have k9_0_0 : w9.cell? ⟨w.heap.size, 0, none⟩ = some (.slice A n cp) := (hL9.cell (p := ⟨w.heap.size, 0, none⟩) (by show w.heap.size < w8.heap.size; omega)).trans k8_0_0
    have k9_1_0 : w9.cell? ⟨w3.heap.size, 0, none⟩ = some (.slice A3 k cp3) := (hL9.cell (p := ⟨w3.heap.size, 0, none⟩) (by show w3.heap.size < w8.heap.size; omega)).trans k8_1_0
    have k9_2_0 : w9.cell? ⟨w4.heap.size, 0, none⟩ = some (.slice (some ⟨g4, 0, none⟩) n n) := (hL9.cell (p := ⟨w4.heap.size, 0, none⟩) (by show w4.heap.size < w8.heap.size; omega)).trans k8_2_0
    have k9_3_0 : w9.cell? ⟨w5.heap.size, 0, none⟩ = some (.slice A5 k cp5) := (hL9.cell (p := ⟨w5.heap.size, 0, none⟩) (by show w5.heap.size < w8.heap.size; omega)).trans k8_3_0
    have bl9_0 : w.heap.size < w9.heap.size := World.block_lt_of_cell? _ _ k9_0_0
    have bl9_1 : w3.heap.size < w9.heap.size := World.block_lt_of_cell? _ _ k9_1_0
    have bl9_2 : w4.heap.size < w9.heap.size := World.block_lt_of_cell? _ _ k9_2_0
    have bl9_3 : w5.heap.size < w9.heap.size := World.block_lt_of_cell? _ _ k9_3_0
    have HW9 := hid (HW8.out.mono hL9)
    have HG9 := hid (HG8.out.mono hL9)
    clear hb9 hL9
    clear k8_0_0 k8_1_0 k8_2_0 k8_3_0 HW8 HG8
    go_wp2_with (fail)
    refine (mkbx (B := w4.heap.size + 1) (xs := zs) ?_ HZ.out hk (by decide) (by decide)).mono ?_
    · exact HG9.out
    rintro ee w10 ⟨rfl, hO10, hG10⟩
    have hz10 := hG10.size
    have hB10 : Below w.heap.size w w10 := Below.grown hB9 hG10 hB9.size (fun r hr => by have := hr_G r hr; omega)
    have k10_0_0 : w10.cell? ⟨w.heap.size, 0, none⟩ = some (.slice A n cp) := hG10.cell k9_0_0 (fun e => by have := hr_G (w.heap.size) e.symm; omega)
    have k10_1_0 : w10.cell? ⟨w3.heap.size, 0, none⟩ = some (.slice A3 k cp3) := hG10.cell k9_1_0 (fun e => by have := hr_G (w3.heap.size) e.symm; omega)
    have k10_2_0 : w10.cell? ⟨w4.heap.size, 0, none⟩ = some (.slice (some ⟨g4, 0, none⟩) n n) := hG10.cell k9_2_0 (fun e => by have := hr_G (w4.heap.size) e.symm; omega)
    have k10_3_0 : w10.cell? ⟨w5.heap.size, 0, none⟩ = some (.slice A5 k cp5) := hG10.cell k9_3_0 (fun e => by have := hr_G (w5.heap.size) e.symm; omega)
    have HW10 := hid (HW9.out.grown hG10 (fun r hr => by have := hr_G r hr; omega))
    have bl10_0 : w.heap.size < w10.heap.size := World.block_lt_of_cell? _ _ k10_0_0
    have bl10_1 : w3.heap.size < w10.heap.size := World.block_lt_of_cell? _ _ k10_1_0
    have bl10_2 : w4.heap.size < w10.heap.size := World.block_lt_of_cell? _ _ k10_2_0
    have bl10_3 : w5.heap.size < w10.heap.size := World.block_lt_of_cell? _ _ k10_3_0
    have HG10 := hid hO10
    clear hO10 hG10
    clear k9_0_0 k9_1_0 k9_2_0 k9_3_0 HW9 HG9
    go_wp2_with (fail)
    refine (hdb ?_ hk (by decide) (by decide)).mono ?_
    · exact HG10.out.rd.mono (by (repeat' (first | (with_reducible exact Below.refl _ _) | (with_reducible assumption) | (with_reducible refine Below.alloc ?_ ?_ _) | (with_reducible refine Below.drew ?_) | (with_reducible refine below_drewN ?_ _) | (with_reducible refine Below.setCell ?_ ?_ _) | (with_reducible refine chain ?_ (by assumption) ?_) | omega | (simp; done) | (simp; omega))))
    rintro ee w11 ⟨rfl, hb11⟩
    have hL11 : Below w10.heap.size w10 w11 := by (repeat' (first | (with_reducible exact Below.refl _ _) | (with_reducible assumption) | (with_reducible refine Below.alloc ?_ ?_ _) | (with_reducible refine Below.drew ?_) | (with_reducible refine below_drewN ?_ _) | (with_reducible refine Below.setCell ?_ ?_ _) | (with_reducible refine chain ?_ (by assumption) ?_) | omega | (simp; done) | (simp; omega)))
    have hz11 := hb11.size
    (try simp only [World.size_alloc] at hz11)
    have hB11 : Below w.heap.size w w11 := chain hB10 hL11 hB10.size
    have k11_0_0 : w11.cell? ⟨w.heap.size, 0, none⟩ = some (.slice A n cp) := (hL11.cell (p := ⟨w.heap.size, 0, none⟩) (by show w.heap.size < w10.heap.size; omega)).trans k10_0_0
    have k11_1_0 : w11.cell? ⟨w3.heap.size, 0, none⟩ = some (.slice A3 k cp3) := (hL11.cell (p := ⟨w3.heap.size, 0, none⟩) (by show w3.heap.size < w10.heap.size; omega)).trans k10_1_0
    have k11_2_0 : w11.cell? ⟨w4.heap.size, 0, none⟩ = some (.slice (some ⟨g4, 0, none⟩) n n) := (hL11.cell (p := ⟨w4.heap.size, 0, none⟩) (by show w4.heap.size < w10.heap.size; omega)).trans k10_2_0
    have k11_3_0 : w11.cell? ⟨w5.heap.size, 0, none⟩ = some (.slice A5 k cp5) := (hL11.cell (p := ⟨w5.heap.size, 0, none⟩) (by show w5.heap.size < w10.heap.size; omega)).trans k10_3_0
    have bl11_0 : w.heap.size < w11.heap.size := World.block_lt_of_cell? _ _ k11_0_0
    have bl11_1 : w3.heap.size < w11.heap.size := World.block_lt_of_cell? _ _ k11_1_0
    have bl11_2 : w4.heap.size < w11.heap.size := World.block_lt_of_cell? _ _ k11_2_0
    have bl11_3 : w5.heap.size < w11.heap.size := World.block_lt_of_cell? _ _ k11_3_0
    have HW11 := hid (HW10.out.mono hL11)
    have HG11 := hid (HG10.out.mono hL11)
    clear hb11 hL11
    clear k10_0_0 k10_1_0 k10_2_0 k10_3_0 HW10 HG10
    go_wp2_with (fail)
    refine (tb (xs := xs) ?_ HN.out hb).mono ?_
    · exact HA.out.mono (by (repeat' (first | (with_reducible exact Below.refl _ _) | (with_reducible assumption) | (with_reducible refine Below.alloc ?_ ?_ _) | (with_reducible refine Below.drew ?_) | (with_reducible refine below_drewN ?_ _) | (with_reducible refine Below.setCell ?_ ?_ _) | (with_reducible refine chain ?_ (by assumption) ?_) | omega | (simp; done) | (simp; omega))))
    rintro ee w12 ⟨g12, rfl, hK12, hg12, hb12⟩
    have hL12 : Below w11.heap.size w11 w12 := by (repeat' (first | (with_reducible exact Below.refl _ _) | (with_reducible assumption) | (with_reducible refine Below.alloc ?_ ?_ _) | (with_reducible refine Below.drew ?_) | (with_reducible refine below_drewN ?_ _) | (with_reducible refine Below.setCell ?_ ?_ _) | (with_reducible refine chain ?_ (by assumption) ?_) | omega | (simp; done) | (simp; omega)))
    have hz12 := hb12.size
    (try simp only [World.size_alloc] at hz12)
    have hB12 : Below w.heap.size w w12 := chain hB11 hL12 hB11.size
    have k12_0_0 : w12.cell? ⟨w.heap.size, 0, none⟩ = some (.slice A n cp) := (hL12.cell (p := ⟨w.heap.size, 0, none⟩) (by show w.heap.size < w11.heap.size; omega)).trans k11_0_0
    have k12_1_0 : w12.cell? ⟨w3.heap.size, 0, none⟩ = some (.slice A3 k cp3) := (hL12.cell (p := ⟨w3.heap.size, 0, none⟩) (by show w3.heap.size < w11.heap.size; omega)).trans k11_1_0
    have k12_2_0 : w12.cell? ⟨w4.heap.size, 0, none⟩ = some (.slice (some ⟨g4, 0, none⟩) n n) := (hL12.cell (p := ⟨w4.heap.size, 0, none⟩) (by show w4.heap.size < w11.heap.size; omega)).trans k11_2_0
    have k12_3_0 : w12.cell? ⟨w5.heap.size, 0, none⟩ = some (.slice A5 k cp5) := (hL12.cell (p := ⟨w5.heap.size, 0, none⟩) (by show w5.heap.size < w11.heap.size; omega)).trans k11_3_0
    have bl12_0 : w.heap.size < w12.heap.size := World.block_lt_of_cell? _ _ k12_0_0
    have bl12_1 : w3.heap.size < w12.heap.size := World.block_lt_of_cell? _ _ k12_1_0
    have bl12_2 : w4.heap.size < w12.heap.size := World.block_lt_of_cell? _ _ k12_2_0
    have bl12_3 : w5.heap.size < w12.heap.size := World.block_lt_of_cell? _ _ k12_3_0
    have HW12 := hid (HW11.out.mono hL12)
    have HG12 := hid (HG11.out.mono hL12)
    clear hb12 hL12
    clear k11_0_0 k11_1_0 k11_2_0 k11_3_0 HW11 HG11
    go_wp2_with (fail)
    refine (HI.out _ _ ?_).mono ?_
    · exact hK12.rd
    rintro ee w13 ⟨A13, cp13, rfl, hO13, hb13⟩
    have hL13 : Below w12.heap.size w12 w13 := by (repeat' (first | (with_reducible exact Below.refl _ _) | (with_reducible assumption) | (with_reducible refine Below.alloc ?_ ?_ _) | (with_reducible refine Below.drew ?_) | (with_reducible refine below_drewN ?_ _) | (with_reducible refine Below.setCell ?_ ?_ _) | (with_reducible refine chain ?_ (by assumption) ?_) | omega | (simp; done) | (simp; omega)))
    have hz13 := hb13.size
    (try simp only [World.size_alloc] at hz13)
    have hB13 : Below w.heap.size w w13 := chain hB12 hL13 hB12.size
    have k13_0_0 : w13.cell? ⟨w.heap.size, 0, none⟩ = some (.slice A n cp) := (hL13.cell (p := ⟨w.heap.size, 0, none⟩) (by show w.heap.size < w12.heap.size; omega)).trans k12_0_0
    have k13_1_0 : w13.cell? ⟨w3.heap.size, 0, none⟩ = some (.slice A3 k cp3) := (hL13.cell (p := ⟨w3.heap.size, 0, none⟩) (by show w3.heap.size < w12.heap.size; omega)).trans k12_1_0
    have k13_2_0 : w13.cell? ⟨w4.heap.size, 0, none⟩ = some (.slice (some ⟨g4, 0, none⟩) n n) := (hL13.cell (p := ⟨w4.heap.size, 0, none⟩) (by show w4.heap.size < w12.heap.size; omega)).trans k12_2_0
    have k13_3_0 : w13.cell? ⟨w5.heap.size, 0, none⟩ = some (.slice A5 k cp5) := (hL13.cell (p := ⟨w5.heap.size, 0, none⟩) (by show w5.heap.size < w12.heap.size; omega)).trans k12_3_0
    have bl13_0 : w.heap.size < w13.heap.size := World.block_lt_of_cell? _ _ k13_0_0
    have bl13_1 : w3.heap.size < w13.heap.size := World.block_lt_of_cell? _ _ k13_1_0
    have bl13_2 : w4.heap.size < w13.heap.size := World.block_lt_of_cell? _ _ k13_2_0
    have bl13_3 : w5.heap.size < w13.heap.size := World.block_lt_of_cell? _ _ k13_3_0
    have HW13 := hid (HW12.out.mono hL13)
    have HG13 := hid (HG12.out.mono hL13)
    clear hb13 hL13
    clear k12_0_0 k12_1_0 k12_2_0 k12_3_0 HW12 HG12
    clear hK12
    have HH13 := hid hO13.rd
    clear hO13
    go_wp2_with (fail)
    refine (eqb (xs := zs) ?_ ?_ HZ.out hk).mono ?_
    · exact HH13.out.mono (by (repeat' (first | (with_reducible exact Below.refl _ _) | (with_reducible assumption) | (with_reducible refine Below.alloc ?_ ?_ _) | (with_reducible refine Below.drew ?_) | (with_reducible refine below_drewN ?_ _) | (with_reducible refine Below.setCell ?_ ?_ _) | (with_reducible refine chain ?_ (by assumption) ?_) | omega | (simp; done) | (simp; omega))))
    · exact HW13.out.rd.mono (by (repeat' (first | (with_reducible exact Below.refl _ _) | (with_reducible assumption) | (with_reducible refine Below.alloc ?_ ?_ _) | (with_reducible refine Below.drew ?_) | (with_reducible refine below_drewN ?_ _) | (with_reducible refine Below.setCell ?_ ?_ _) | (with_reducible refine chain ?_ (by assumption) ?_) | omega | (simp; done) | (simp; omega))))
    rintro ee w14 ⟨rfl, hb14⟩
    have hL14 : Below w13.heap.size w13 w14 := by (repeat' (first | (with_reducible exact Below.refl _ _) | (with_reducible assumption) | (with_reducible refine Below.alloc ?_ ?_ _) | (with_reducible refine Below.drew ?_) | (with_reducible refine below_drewN ?_ _) | (with_reducible refine Below.setCell ?_ ?_ _) | (with_reducible refine chain ?_ (by assumption) ?_) | omega | (simp; done) | (simp; omega)))
    have hz14 := hb14.size
    (try simp only [World.size_alloc] at hz14)
    have hB14 : Below w.heap.size w w14 := chain hB13 hL14 hB13.size
    have k14_0_0 : w14.cell? ⟨w.heap.size, 0, none⟩ = some (.slice A n cp) := (hL14.cell (p := ⟨w.heap.size, 0, none⟩) (by show w.heap.size < w13.heap.size; omega)).trans k13_0_0
    have k14_1_0 : w14.cell? ⟨w3.heap.size, 0, none⟩ = some (.slice A3 k cp3) := (hL14.cell (p := ⟨w3.heap.size, 0, none⟩) (by show w3.heap.size < w13.heap.size; omega)).trans k13_1_0
    have k14_2_0 : w14.cell? ⟨w4.heap.size, 0, none⟩ = some (.slice (some ⟨g4, 0, none⟩) n n) := (hL14.cell (p := ⟨w4.heap.size, 0, none⟩) (by show w4.heap.size < w13.heap.size; omega)).trans k13_2_0
    have k14_3_0 : w14.cell? ⟨w5.heap.size, 0, none⟩ = some (.slice A5 k cp5) := (hL14.cell (p := ⟨w5.heap.size, 0, none⟩) (by show w5.heap.size < w13.heap.size; omega)).trans k13_3_0
    have k14_4_0 : w14.cell? ⟨w13.heap.size, 0, none⟩ = some (.slice A13 k cp13) := (hb14.cell (p := ⟨w13.heap.size, 0, none⟩) (by show w13.heap.size < _; (try simp only [World.size_alloc]); omega)).trans (by first | rfl | (simp; done) | (simp [*]; done))
    have bl14_0 : w.heap.size < w14.heap.size := World.block_lt_of_cell? _ _ k14_0_0
    have bl14_1 : w3.heap.size < w14.heap.size := World.block_lt_of_cell? _ _ k14_1_0
    have bl14_2 : w4.heap.size < w14.heap.size := World.block_lt_of_cell? _ _ k14_2_0
    have bl14_3 : w5.heap.size < w14.heap.size := World.block_lt_of_cell? _ _ k14_3_0
    have bl14_4 : w13.heap.size < w14.heap.size := World.block_lt_of_cell? _ _ k14_4_0
    have HW14 := hid (HW13.out.mono hL14)
    have HG14 := hid (HG13.out.mono hL14)
    clear hb14 hL14
    clear k13_0_0 k13_1_0 k13_2_0 k13_3_0 HW13 HG13
    go_wp2_with (fail)
    refine (hdb ?_ hk (by decide) (by decide)).mono ?_
    · exact HG14.out.rd.mono (by (repeat' (first | (with_reducible exact Below.refl _ _) | (with_reducible assumption) | (with_reducible refine Below.alloc ?_ ?_ _) | (with_reducible refine Below.drew ?_) | (with_reducible refine below_drewN ?_ _) | (with_reducible refine Below.setCell ?_ ?_ _) | (with_reducible refine chain ?_ (by assumption) ?_) | omega | (simp; done) | (simp; omega))))
    rintro ee w15 ⟨rfl, hb15⟩
    have hL15 : Below w14.heap.size w14 w15 := by (repeat' (first | (with_reducible exact Below.refl _ _) | (with_reducible assumption) | (with_reducible refine Below.alloc ?_ ?_ _) | (with_reducible refine Below.drew ?_) | (with_reducible refine below_drewN ?_ _) | (with_reducible refine Below.setCell ?_ ?_ _) | (with_reducible refine chain ?_ (by assumption) ?_) | omega | (simp; done) | (simp; omega)))
    have hz15 := hb15.size
    (try simp only [World.size_alloc] at hz15)
    have hB15 : Below w.heap.size w w15 := chain hB14 hL15 hB14.size
    have k15_0_0 : w15.cell? ⟨w.heap.size, 0, none⟩ = some (.slice A n cp) := (hL15.cell (p := ⟨w.heap.size, 0, none⟩) (by show w.heap.size < w14.heap.size; omega)).trans k14_0_0
    have k15_1_0 : w15.cell? ⟨w3.heap.size, 0, none⟩ = some (.slice A3 k cp3) := (hL15.cell (p := ⟨w3.heap.size, 0, none⟩) (by show w3.heap.size < w14.heap.size; omega)).trans k14_1_0
    have k15_2_0 : w15.cell? ⟨w4.heap.size, 0, none⟩ = some (.slice (some ⟨g4, 0, none⟩) n n) := (hL15.cell (p := ⟨w4.heap.size, 0, none⟩) (by show w4.heap.size < w14.heap.size; omega)).trans k14_2_0
    have k15_3_0 : w15.cell? ⟨w5.heap.size, 0, none⟩ = some (.slice A5 k cp5) := (hL15.cell (p := ⟨w5.heap.size, 0, none⟩) (by show w5.heap.size < w14.heap.size; omega)).trans k14_3_0
    have k15_4_0 : w15.cell? ⟨w13.heap.size, 0, none⟩ = some (.slice A13 k cp13) := (hL15.cell (p := ⟨w13.heap.size, 0, none⟩) (by show w13.heap.size < w14.heap.size; omega)).trans k14_4_0
    have bl15_0 : w.heap.size < w15.heap.size := World.block_lt_of_cell? _ _ k15_0_0
    have bl15_1 : w3.heap.size < w15.heap.size := World.block_lt_of_cell? _ _ k15_1_0
    have bl15_2 : w4.heap.size < w15.heap.size := World.block_lt_of_cell? _ _ k15_2_0
    have bl15_3 : w5.heap.size < w15.heap.size := World.block_lt_of_cell? _ _ k15_3_0
    have bl15_4 : w13.heap.size < w15.heap.size := World.block_lt_of_cell? _ _ k15_4_0
    have HW15 := hid (HW14.out.mono hL15)
    have HG15 := hid (HG14.out.mono hL15)
    clear hb15 hL15
    clear k14_0_0 k14_1_0 k14_2_0 k14_3_0 k14_4_0 HW14 HG14
    go_wp2_with (fail)
    go_ret
    exact ⟨rfl, hB15⟩

set_option maxRecDepth 100000 in
set_option maxHeartbeats 4000000 in
theorem bigTransposeBloch0 {A0 : Option Addr} {n0 cp0 : Nat} {w : World} (hb : 1048576 < (n0 : Int)) (hm : n0 ≤ maxLen) :
    Calls Try.prog 8 #[bv A0 n0 cp0] w fun ee w' => ee = .returned (.bool true) ∧ Below w.heap.size w w' := by
  have hu : n0 ≤ 9223372036854775807 := by unfold maxLen at hm; omega
  go_enter Try.func8, Try.ntmps8
  go_wp2_with (fail)
  refine (szb_f (n := n0) (by omega) (by omega) (by omega) hm).mono ?_
  rintro ee v ⟨rfl, hv⟩
  go_wp2_with (fail)
  go_ret
  refine ⟨rfl, ?_⟩
  (repeat' (first | (with_reducible exact Below.refl _ _) | (with_reducible assumption) | (with_reducible refine Below.alloc ?_ ?_ _) | (with_reducible refine Below.drew ?_) | (with_reducible refine below_drewN ?_ _) | (with_reducible refine Below.setCell ?_ ?_ _) | (with_reducible refine chain ?_ (by assumption) ?_) | omega | (simp; done) | (simp; omega)))

theorem fnExactTransposeBloch_walk {A : Option Addr} {n cp : Nat} {xs : List D5} {w : World} (hA : Rd w A xs) (hn : xs.length = n) (hm : n ≤ maxLen) :
    Calls Try.prog 8 #[bv A n cp] w fun ee w' => ee = .returned (.bool true) ∧ Below w.heap.size w w' := by
  by_cases hb : n ≤ 1048576
  · cases hok : okBl n xs
    · exact lwTransposeBloch (k := 0) (zs := []) (ok := false) (fun g w k => (tb_s_f k hn hb hok).mono fun _ _ ⟨e, hw⟩ => ⟨none, 0, e, Rd.nil _ _, hw⟩) (fun g w k => (tb_i_f k hn hb hok).mono fun _ _ ⟨e, hw⟩ => ⟨none, 0, e, Or.inl ⟨rfl, rfl⟩, hw⟩) rfl (by decide) hA hn hb
    · exact lwTransposeBloch (k := 9) (zs := tab 9 (tpF xs)) (ok := true) (fun g w k => tb_s_t k hn hb hok) (fun g w k => tb_i_t k hn hb hok) (tab_len _ _) (by decide) hA hn hb
  · exact bigTransposeBloch0 (by omega) hm


end Go.Proofs.Ytofclfgaekjonaa
