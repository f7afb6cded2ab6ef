/- MulBloch: the walk of the law. -/
import Derived.Test.YtofclfgaekjonaaZq27
namespace Go.Proofs.Ytofclfgaekjonaa
open Go.RowKit RM
set_option linter.unusedVariables false
set_option linter.unusedSimpArgs false
attribute [local irreducible] World.setCell

set_option maxRecDepth 100000 in
set_option maxHeartbeats 16000000 in
theorem lwMulBloch {A B : Option Addr} {n m cp cp' : Nat} {xs ys : List D5} {k : Nat} {zs : List D5} {ok : Bool} {w : World} (hS : ∀ (g h : Nat) (w : World), Rd w (some ⟨g, 0, none⟩) xs → Rd w (some ⟨h, 0, none⟩) ys → Calls Try.prog 32 #[bv (some ⟨g, 0, none⟩) n n, bv (some ⟨h, 0, none⟩) m m] w fun ee w' => ∃ A cp, ee = .returned (bt A k cp ok) ∧ (Rd w' A zs ∧ (∀ a, A = some a → w.heap.size ≤ a.block)) ∧ Below w.heap.size w w') (hI : ∀ (g h : Nat) (w : World), Rd w (some ⟨g, 0, none⟩) xs → Rd w (some ⟨h, 0, none⟩) ys → Calls Try.prog 33 #[bv (some ⟨g, 0, none⟩) n n, bv (some ⟨h, 0, none⟩) m m] w fun ee w' => ∃ A cp, ee = .returned (bt A k cp ok) ∧ (Ow w' w.heap.size 99 A zs) ∧ Below w.heap.size w w') (hz : zs.length = k) (hk : k ≤ 1048576) (hA : Rd w A xs) (hB : Rd w B ys) (hn : xs.length = n) (hm : ys.length = m) (hb : n + m ≤ 1048576) :
    Calls Try.prog 7 #[bv A n cp, bv B m cp'] w fun ee w' => ee = .returned (.bool true) ∧ Below w.heap.size w w' := by
  have HA := hid hA
  have HB := hid hB
  have HN := hid hn
  have HM := hid hm
  have HS := hid hS
  have HI := hid hI
  have HZ := hid hz
  have bn : n ≤ 1048576 := by omega
  have bm : m ≤ 1048576 := by omega
  have s0 : ¬ (1048576 - (n : Int) < 0) := by omega
  have s1 : (n : Int) ≤ 1048576 := by omega
  have s2 : 0 ≤ 1048576 - (n : Int) := by omega
  have t0 : ¬ (1048576 - (n : Int) - (m : Int) < 0) := by omega
  have t1 : (m : Int) ≤ 1048576 - (n : Int) := by omega
  have t2 : 0 ≤ 1048576 - (n : Int) - (m : Int) := by omega
  have t3 : 1048576 - (n : Int) ≤ 1048576 := by omega
  have u0 : ¬ (1 + 5 * (k : Int) < 0) := by omega
  have u1 : 0 ≤ 1 + 5 * (k : Int) := by omega
  have u2 : ¬ (1 + 5 * (n : Int) + 5 * (m : Int) < 0) := by omega
  have u3 : 0 ≤ 1 + 5 * (n : Int) + 5 * (m : Int) := by omega
  clear hA hB hn hm hS hI hz
  go_enter Try.func7, Try.ntmps7
  go_wp2_with (fail)
  refine (szb_t s1 (by decide)).mono ?_
  rintro ee w1 ⟨rfl, hb1⟩
  have hL1 : Below w.heap.size w w1 := by (repeat' (first | (with_reducible exact Below.refl _ _) | (with_reducible assumption) | (with_reducible refine Below.alloc ?_ ?_ _) | (with_reducible refine Below.drew ?_) | (with_reducible refine below_drewN ?_ _) | (with_reducible refine Below.setCell ?_ ?_ _) | (with_reducible refine chain ?_ (by assumption) ?_) | omega | (simp; done) | (simp; omega)))
  have hz1 := hb1.size
  (try simp only [World.size_alloc] at hz1)
  have hB1 : Below w.heap.size w w1 := hL1
  have k1_0_0 : w1.cell? ⟨w.heap.size, 0, none⟩ = some (.slice A n cp) := (hb1.cell (p := ⟨w.heap.size, 0, none⟩) (by show w.heap.size < _; (try simp only [World.size_alloc]); omega)).trans (by first | rfl | (simp; done) | (simp [*]; done))
  have k1_1_0 : w1.cell? ⟨w.heap.size + 1, 0, none⟩ = some (.slice B m cp') := (hb1.cell (p := ⟨w.heap.size + 1, 0, none⟩) (by show w.heap.size + 1 < _; (try simp only [World.size_alloc]); omega)).trans (by first | rfl | (simp; done) | (simp [*]; done))
  have bl1_0 : w.heap.size < w1.heap.size := World.block_lt_of_cell? _ _ k1_0_0
  have bl1_1 : w.heap.size + 1 < w1.heap.size := World.block_lt_of_cell? _ _ k1_1_0
  clear hb1 hL1
  go_wp2_with (fail)
  refine (szb_t t1 t3).mono ?_
  rintro ee w2 ⟨rfl, hb2⟩
  have hL2 : Below w1.heap.size w1 w2 := by (repeat' (first | (with_reducible exact Below.refl _ _) | (with_reducible assumption) | (with_reducible refine Below.alloc ?_ ?_ _) | (with_reducible refine Below.drew ?_) | (with_reducible refine below_drewN ?_ _) | (with_reducible refine Below.setCell ?_ ?_ _) | (with_reducible refine chain ?_ (by assumption) ?_) | omega | (simp; done) | (simp; omega)))
  have hz2 := hb2.size
  (try simp only [World.size_alloc] at hz2)
  have hB2 : Below w.heap.size w w2 := chain hB1 hL2 hB1.size
  have k2_0_0 : w2.cell? ⟨w.heap.size, 0, none⟩ = some (.slice A n cp) := (hL2.cell (p := ⟨w.heap.size, 0, none⟩) (by show w.heap.size < w1.heap.size; omega)).trans k1_0_0
  have k2_1_0 : w2.cell? ⟨w.heap.size + 1, 0, none⟩ = some (.slice B m cp') := (hL2.cell (p := ⟨w.heap.size + 1, 0, none⟩) (by show w.heap.size + 1 < w1.heap.size; omega)).trans k1_1_0
  have bl2_0 : w.heap.size < w2.heap.size := World.block_lt_of_cell? _ _ k2_0_0
  have bl2_1 : w.heap.size + 1 < w2.heap.size := World.block_lt_of_cell? _ _ k2_1_0
  clear hb2 hL2
  clear k1_0_0 k1_1_0
  go_wp2_with (fail)
  go_cut [6, 7] (fun s6 s7 wx => CutG (∃ (b : Nat) (A : Option Addr) (cp : Nat), s6 = .pointer (some ⟨b, 0, none⟩) ∧ s7 = .bool ok ∧ wx.cell? ⟨b, 0, none⟩ = some (.slice A k cp) ∧ Hid (RdB wx wx.heap.size A zs)) (wx.cell? ⟨w.heap.size, 0, none⟩ = some (.slice A n cp) ∧ wx.cell? ⟨w.heap.size + 1, 0, none⟩ = some (.slice B m cp') ∧ w2.heap.size ≤ wx.heap.size ∧ Below w.heap.size w wx))
  case first =>
    have yk2_0_0 : w2.drew.cell? ⟨w.heap.size, 0, none⟩ = some (.slice A n cp) := k2_0_0
    have yk2_1_0 : w2.drew.cell? ⟨w.heap.size + 1, 0, none⟩ = some (.slice B m cp') := k2_1_0
    have hBz := hB2.size
    go_region_held3 (fun w' => w'.cell? ⟨w.heap.size, 0, none⟩ = some (.slice A n cp) ∧ w'.cell? ⟨w.heap.size + 1, 0, none⟩ = some (.slice B m cp')) (first | (with_reducible exact ⟨yk2_0_0, yk2_1_0⟩) | (with_reducible exact ⟨k2_0_0, k2_1_0⟩) | (go_split_ands; with_reducible exact ⟨kc hv0 (by with_reducible assumption), kc hv0 (by with_reducible assumption)⟩) | (go_split_ands; with_reducible exact ⟨kc hv1 (by with_reducible assumption), kc hv1 (by with_reducible assumption)⟩) | (go_split_ands; with_reducible exact ⟨kc hv2 (by with_reducible assumption), kc hv2 (by with_reducible assumption)⟩) | (go_split_ands; with_reducible exact ⟨kal (by with_reducible assumption), kal (by with_reducible assumption)⟩) | (go_split_ands; with_reducible exact ⟨kald (by with_reducible assumption), kald (by with_reducible assumption)⟩) | (go_split_ands; with_reducible exact ⟨kre (by omega) (by with_reducible assumption), kre (by omega) (by with_reducible assumption)⟩) | (go_split_ands; with_reducible exact ⟨kst1 (by omega) (by with_reducible assumption), kst1 (by omega) (by with_reducible assumption)⟩)) (first | (go_at_call 27; ((with_reducible refine (tb (xs := xs) ?_ HN.out bn).mono ?_); (exact HA.out.mono (by (repeat' (first | (with_reducible exact Below.refl _ _) | (with_reducible assumption) | (with_reducible refine Below.alloc ?_ ?_ _) | (with_reducible refine Below.drew ?_) | (with_reducible refine below_drewN ?_ _) | (with_reducible refine Below.setCell ?_ ?_ _) | (with_reducible refine chain ?_ (by assumption) ?_) | omega | (simp; done) | (simp; omega))))); rintro ee v0 ⟨g0, rfl, hK0, hg0, hv0⟩; obtain ⟨hcv0, hfv0, _⟩ := bcell hv0; have hq0 := hv0.size; (try simp only [World.size_drew, World.size_alloc] at hq0); (try have ho0_0 : w2.heap.size < v0.heap.size := (by omega)); (try have ho0_1 : v1.heap.size < v0.heap.size := (by omega)); (try have ho0_2 : v2.heap.size < v0.heap.size := (by omega)))) | (go_at_call 27; ((with_reducible refine (tb (xs := ys) ?_ HM.out bm).mono ?_); (exact HB.out.mono (by (repeat' (first | (with_reducible exact Below.refl _ _) | (with_reducible assumption) | (with_reducible refine Below.alloc ?_ ?_ _) | (with_reducible refine Below.drew ?_) | (with_reducible refine below_drewN ?_ _) | (with_reducible refine Below.setCell ?_ ?_ _) | (with_reducible refine chain ?_ (by assumption) ?_) | omega | (simp; done) | (simp; omega))))); rintro ee v1 ⟨g1, rfl, hK1, hg1, hv1⟩; obtain ⟨hcv1, hfv1, _⟩ := bcell hv1; have hq1 := hv1.size; (try simp only [World.size_drew, World.size_alloc] at hq1); (try have ho1_0 : w2.heap.size < v1.heap.size := (by omega)); (try have ho1_1 : v0.heap.size < v1.heap.size := (by omega)); (try have ho1_2 : v2.heap.size < v1.heap.size := (by omega)))) | (go_at_call 32; ((with_reducible refine (HS.out _ _ _ ?_ ?_).mono ?_); (exact (by exact hK0.rd.mono (by (repeat' (first | (with_reducible exact Below.refl _ _) | (with_reducible assumption) | (with_reducible refine Below.alloc ?_ ?_ _) | (with_reducible refine Below.drew ?_) | (with_reducible refine below_drewN ?_ _) | (with_reducible refine Below.setCell ?_ ?_ _) | (with_reducible refine chain ?_ (by assumption) ?_) | omega | (simp; done) | (simp; omega)))))); (exact (by exact hK1.rd.mono (by (repeat' (first | (with_reducible exact Below.refl _ _) | (with_reducible assumption) | (with_reducible refine Below.alloc ?_ ?_ _) | (with_reducible refine Below.drew ?_) | (with_reducible refine below_drewN ?_ _) | (with_reducible refine Below.setCell ?_ ?_ _) | (with_reducible refine chain ?_ (by assumption) ?_) | omega | (simp; done) | (simp; omega)))))); rintro ee v2 ⟨A3, cp3, rfl, ⟨hR3, hA3⟩, hv2⟩; obtain ⟨hcv2, hfv2, _⟩ := bcell hv2; have hq2 := hv2.size; (try simp only [World.size_drew, World.size_alloc] at hq2); (try have ho2_0 : w2.heap.size < v2.heap.size := (by omega)); (try have ho2_1 : v0.heap.size < v2.heap.size := (by omega)); (try have ho2_2 : v1.heap.size < v2.heap.size := (by omega)))))
    all_goals (go_wp2_with fail; go_meet)
    all_goals go_split_ands
    all_goals (refine ⟨⟨_, A3, cp3, rfl, rfl, (by first | (go_simp; done) | (simp [*]; done)), (by exact Rd.b (by (repeat' (first | (with_reducible assumption) | (refine Rd.far ?_ (fun a ha => by have h9 := hA3 a ha; (try simp only [World.size_drew, World.size_alloc] at h9); dsimp only; omega) _) | (exact hR3.mono (by (repeat' (first | (with_reducible exact Below.refl _ _) | (with_reducible assumption) | (with_reducible refine Below.alloc ?_ ?_ _) | (with_reducible refine Below.drew ?_) | (with_reducible refine below_drewN ?_ _) | (with_reducible refine Below.setCell ?_ ?_ _) | (with_reducible refine chain ?_ (by assumption) ?_) | omega | (simp; done) | (simp; omega)))))))) (Nat.le_refl _))⟩, (by with_reducible assumption), (by with_reducible assumption), (by (try simp only [World.size_alloc, World.size_drew, World.size_setCell]); omega), (by (repeat' (first | (with_reducible exact Below.refl _ _) | (with_reducible assumption) | (with_reducible refine Below.alloc ?_ ?_ _) | (with_reducible refine Below.drew ?_) | (with_reducible refine below_drewN ?_ _) | (with_reducible refine Below.setCell ?_ ?_ _) | (with_reducible refine chain ?_ (by assumption) ?_) | omega | (simp; done) | (simp; omega))))⟩)
  case rest =>
    obtain ⟨w3, rfl⟩ : ∃ w3, w3 = wc := ⟨_, rfl⟩
    clear k2_0_0 k2_1_0
    obtain ⟨⟨bW, AW, cpW, rfl, rfl, k3_2_0, HRW⟩, k3_0_0, k3_1_0, hz3, hB3⟩ := hcut
    have bl3_0 : w.heap.size < w3.heap.size := World.block_lt_of_cell? _ _ k3_0_0
    have bl3_1 : w.heap.size + 1 < w3.heap.size := World.block_lt_of_cell? _ _ k3_1_0
    have bl3_2 : bW < w3.heap.size := World.block_lt_of_cell? _ _ k3_2_0
    have HW3 : Hid (RdB w3 w3.heap.size AW zs) := HRW
    clear HRW
    go_wp2_with (fail)
    refine (tb (xs := xs) ?_ HN.out bn).mono ?_
    · exact HA.out.mono (by (repeat' (first | (with_reducible exact Below.refl _ _) | (with_reducible assumption) | (with_reducible refine Below.alloc ?_ ?_ _) | (with_reducible refine Below.drew ?_) | (with_reducible refine below_drewN ?_ _) | (with_reducible refine Below.setCell ?_ ?_ _) | (with_reducible refine chain ?_ (by assumption) ?_) | omega | (simp; done) | (simp; omega))))
    rintro ee w4 ⟨g4, rfl, hK4, hg4, hb4⟩
    have hL4 : Below w3.heap.size w3 w4 := by (repeat' (first | (with_reducible exact Below.refl _ _) | (with_reducible assumption) | (with_reducible refine Below.alloc ?_ ?_ _) | (with_reducible refine Below.drew ?_) | (with_reducible refine below_drewN ?_ _) | (with_reducible refine Below.setCell ?_ ?_ _) | (with_reducible refine chain ?_ (by assumption) ?_) | omega | (simp; done) | (simp; omega)))
    have hz4 := hb4.size
    (try simp only [World.size_alloc] at hz4)
    have hB4 : Below w.heap.size w w4 := chain hB3 hL4 hB3.size
    have k4_0_0 : w4.cell? ⟨w.heap.size, 0, none⟩ = some (.slice A n cp) := (hL4.cell (p := ⟨w.heap.size, 0, none⟩) (by show w.heap.size < w3.heap.size; omega)).trans k3_0_0
    have k4_1_0 : w4.cell? ⟨w.heap.size + 1, 0, none⟩ = some (.slice B m cp') := (hL4.cell (p := ⟨w.heap.size + 1, 0, none⟩) (by show w.heap.size + 1 < w3.heap.size; omega)).trans k3_1_0
    have k4_2_0 : w4.cell? ⟨bW, 0, none⟩ = some (.slice AW k cpW) := (hL4.cell (p := ⟨bW, 0, none⟩) (by show bW < w3.heap.size; omega)).trans k3_2_0
    have bl4_0 : w.heap.size < w4.heap.size := World.block_lt_of_cell? _ _ k4_0_0
    have bl4_1 : w.heap.size + 1 < w4.heap.size := World.block_lt_of_cell? _ _ k4_1_0
    have bl4_2 : bW < w4.heap.size := World.block_lt_of_cell? _ _ k4_2_0
    have HW4 := hid (HW3.out.mono hL4)
    clear hb4 hL4
    clear k3_0_0 k3_1_0 k3_2_0 HW3
    (try simp only [World.size_alloc] at hg4)
    have HX4 : Hid (Ow w4 w3.heap.size 99 (some ⟨g4, 0, none⟩) xs) := hK4.ow (by omega)
    clear hK4
    have hr_X := HX4.out.row
    go_wp2_with (fail)
    refine (tb (xs := ys) ?_ HM.out bm).mono ?_
    · exact HB.out.mono (by (repeat' (first | (with_reducible exact Below.refl _ _) | (with_reducible assumption) | (with_reducible refine Below.alloc ?_ ?_ _) | (with_reducible refine Below.drew ?_) | (with_reducible refine below_drewN ?_ _) | (with_reducible refine Below.setCell ?_ ?_ _) | (with_reducible refine chain ?_ (by assumption) ?_) | omega | (simp; done) | (simp; omega))))
    rintro ee w5 ⟨g5, rfl, hK5, hg5, hb5⟩
    have hL5 : Below w4.heap.size w4 w5 := by (repeat' (first | (with_reducible exact Below.refl _ _) | (with_reducible assumption) | (with_reducible refine Below.alloc ?_ ?_ _) | (with_reducible refine Below.drew ?_) | (with_reducible refine below_drewN ?_ _) | (with_reducible refine Below.setCell ?_ ?_ _) | (with_reducible refine chain ?_ (by assumption) ?_) | omega | (simp; done) | (simp; omega)))
    have hz5 := hb5.size
    (try simp only [World.size_alloc] at hz5)
    have hB5 : Below w.heap.size w w5 := chain hB4 hL5 hB4.size
    have k5_0_0 : w5.cell? ⟨w.heap.size, 0, none⟩ = some (.slice A n cp) := (hL5.cell (p := ⟨w.heap.size, 0, none⟩) (by show w.heap.size < w4.heap.size; omega)).trans k4_0_0
    have k5_1_0 : w5.cell? ⟨w.heap.size + 1, 0, none⟩ = some (.slice B m cp') := (hL5.cell (p := ⟨w.heap.size + 1, 0, none⟩) (by show w.heap.size + 1 < w4.heap.size; omega)).trans k4_1_0
    have k5_2_0 : w5.cell? ⟨bW, 0, none⟩ = some (.slice AW k cpW) := (hL5.cell (p := ⟨bW, 0, none⟩) (by show bW < w4.heap.size; omega)).trans k4_2_0
    have k5_3_0 : w5.cell? ⟨w4.heap.size, 0, none⟩ = some (.slice (some ⟨g4, 0, none⟩) n n) := (hb5.cell (p := ⟨w4.heap.size, 0, none⟩) (by show w4.heap.size < _; (try simp only [World.size_alloc]); omega)).trans (by first | rfl | (simp; done) | (simp [*]; done))
    have bl5_0 : w.heap.size < w5.heap.size := World.block_lt_of_cell? _ _ k5_0_0
    have bl5_1 : w.heap.size + 1 < w5.heap.size := World.block_lt_of_cell? _ _ k5_1_0
    have bl5_2 : bW < w5.heap.size := World.block_lt_of_cell? _ _ k5_2_0
    have bl5_3 : w4.heap.size < w5.heap.size := World.block_lt_of_cell? _ _ k5_3_0
    have HW5 := hid (HW4.out.mono hL5)
    have HX5 := hid (HX4.out.mono hL5)
    clear hb5 hL5
    clear k4_0_0 k4_1_0 k4_2_0 HW4 HX4
    (try simp only [World.size_alloc] at hg5)
    have HY5 : Hid (Ow w5 (w4.heap.size + 1) 99 (some ⟨g5, 0, none⟩) ys) := hK5.ow (by omega)
    clear hK5
    have hr_Y := HY5.out.row
    go_wp2_with (fail)
    refine (HI.out _ _ _ ?_ ?_).mono ?_
    · exact HX5.out.rd.mono (by (repeat' (first | (with_reducible exact Below.refl _ _) | (with_reducible assumption) | (with_reducible refine Below.alloc ?_ ?_ _) | (with_reducible refine Below.drew ?_) | (with_reducible refine below_drewN ?_ _) | (with_reducible refine Below.setCell ?_ ?_ _) | (with_reducible refine chain ?_ (by assumption) ?_) | omega | (simp; done) | (simp; omega))))
    · exact HY5.out.rd.mono (by (repeat' (first | (with_reducible exact Below.refl _ _) | (with_reducible assumption) | (with_reducible refine Below.alloc ?_ ?_ _) | (with_reducible refine Below.drew ?_) | (with_reducible refine below_drewN ?_ _) | (with_reducible refine Below.setCell ?_ ?_ _) | (with_reducible refine chain ?_ (by assumption) ?_) | omega | (simp; done) | (simp; omega))))
    rintro ee w6 ⟨A6, cp6, rfl, hO6, hb6⟩
    have hL6 : Below w5.heap.size w5 w6 := by (repeat' (first | (with_reducible exact Below.refl _ _) | (with_reducible assumption) | (with_reducible refine Below.alloc ?_ ?_ _) | (with_reducible refine Below.drew ?_) | (with_reducible refine below_drewN ?_ _) | (with_reducible refine Below.setCell ?_ ?_ _) | (with_reducible refine chain ?_ (by assumption) ?_) | omega | (simp; done) | (simp; omega)))
    have hz6 := hb6.size
    (try simp only [World.size_alloc] at hz6)
    have hB6 : Below w.heap.size w w6 := chain hB5 hL6 hB5.size
    have k6_0_0 : w6.cell? ⟨w.heap.size, 0, none⟩ = some (.slice A n cp) := (hL6.cell (p := ⟨w.heap.size, 0, none⟩) (by show w.heap.size < w5.heap.size; omega)).trans k5_0_0
    have k6_1_0 : w6.cell? ⟨w.heap.size + 1, 0, none⟩ = some (.slice B m cp') := (hL6.cell (p := ⟨w.heap.size + 1, 0, none⟩) (by show w.heap.size + 1 < w5.heap.size; omega)).trans k5_1_0
    have k6_2_0 : w6.cell? ⟨bW, 0, none⟩ = some (.slice AW k cpW) := (hL6.cell (p := ⟨bW, 0, none⟩) (by show bW < w5.heap.size; omega)).trans k5_2_0
    have k6_3_0 : w6.cell? ⟨w4.heap.size, 0, none⟩ = some (.slice (some ⟨g4, 0, none⟩) n n) := (hL6.cell (p := ⟨w4.heap.size, 0, none⟩) (by show w4.heap.size < w5.heap.size; omega)).trans k5_3_0
    have k6_4_0 : w6.cell? ⟨w5.heap.size, 0, none⟩ = some (.slice (some ⟨g5, 0, none⟩) m m) := (hb6.cell (p := ⟨w5.heap.size, 0, none⟩) (by show w5.heap.size < _; (try simp only [World.size_alloc]); omega)).trans (by first | rfl | (simp; done) | (simp [*]; done))
    have bl6_0 : w.heap.size < w6.heap.size := World.block_lt_of_cell? _ _ k6_0_0
    have bl6_1 : w.heap.size + 1 < w6.heap.size := World.block_lt_of_cell? _ _ k6_1_0
    have bl6_2 : bW < w6.heap.size := World.block_lt_of_cell? _ _ k6_2_0
    have bl6_3 : w4.heap.size < w6.heap.size := World.block_lt_of_cell? _ _ k6_3_0
    have bl6_4 : w5.heap.size < w6.heap.size := World.block_lt_of_cell? _ _ k6_4_0
    have HW6 := hid (HW5.out.mono hL6)
    have HX6 := hid (HX5.out.mono hL6)
    have HY6 := hid (HY5.out.mono hL6)
    clear hb6 hL6
    clear k5_0_0 k5_1_0 k5_2_0 k5_3_0 HW5 HX5 HY5
    (try simp only [World.size_alloc] at hO6)
    have HG6 : Hid (Ow w6 (w5.heap.size + 1) 99 A6 zs) := hO6.dn (by omega)
    clear hO6
    have hr_G := HG6.out.row
    go_wp2_with (fail)
    refine (eqb (xs := zs) ?_ ?_ HZ.out hk).mono ?_
    · exact HG6.out.rd.mono (by (repeat' (first | (with_reducible exact Below.refl _ _) | (with_reducible assumption) | (with_reducible refine Below.alloc ?_ ?_ _) | (with_reducible refine Below.drew ?_) | (with_reducible refine below_drewN ?_ _) | (with_reducible refine Below.setCell ?_ ?_ _) | (with_reducible refine chain ?_ (by assumption) ?_) | omega | (simp; done) | (simp; omega))))
    · exact HW6.out.rd.mono (by (repeat' (first | (with_reducible exact Below.refl _ _) | (with_reducible assumption) | (with_reducible refine Below.alloc ?_ ?_ _) | (with_reducible refine Below.drew ?_) | (with_reducible refine below_drewN ?_ _) | (with_reducible refine Below.setCell ?_ ?_ _) | (with_reducible refine chain ?_ (by assumption) ?_) | omega | (simp; done) | (simp; omega))))
    rintro ee w7 ⟨rfl, hb7⟩
    have hL7 : Below w6.heap.size w6 w7 := by (repeat' (first | (with_reducible exact Below.refl _ _) | (with_reducible assumption) | (with_reducible refine Below.alloc ?_ ?_ _) | (with_reducible refine Below.drew ?_) | (with_reducible refine below_drewN ?_ _) | (with_reducible refine Below.setCell ?_ ?_ _) | (with_reducible refine chain ?_ (by assumption) ?_) | omega | (simp; done) | (simp; omega)))
    have hz7 := hb7.size
    (try simp only [World.size_alloc] at hz7)
    have hB7 : Below w.heap.size w w7 := chain hB6 hL7 hB6.size
    have k7_0_0 : w7.cell? ⟨w.heap.size, 0, none⟩ = some (.slice A n cp) := (hL7.cell (p := ⟨w.heap.size, 0, none⟩) (by show w.heap.size < w6.heap.size; omega)).trans k6_0_0
    have k7_1_0 : w7.cell? ⟨w.heap.size + 1, 0, none⟩ = some (.slice B m cp') := (hL7.cell (p := ⟨w.heap.size + 1, 0, none⟩) (by show w.heap.size + 1 < w6.heap.size; omega)).trans k6_1_0
    have k7_2_0 : w7.cell? ⟨bW, 0, none⟩ = some (.slice AW k cpW) := (hL7.cell (p := ⟨bW, 0, none⟩) (by show bW < w6.heap.size; omega)).trans k6_2_0
    have k7_3_0 : w7.cell? ⟨w4.heap.size, 0, none⟩ = some (.slice (some ⟨g4, 0, none⟩) n n) := (hL7.cell (p := ⟨w4.heap.size, 0, none⟩) (by show w4.heap.size < w6.heap.size; omega)).trans k6_3_0
    have k7_4_0 : w7.cell? ⟨w5.heap.size, 0, none⟩ = some (.slice (some ⟨g5, 0, none⟩) m m) := (hL7.cell (p := ⟨w5.heap.size, 0, none⟩) (by show w5.heap.size < w6.heap.size; omega)).trans k6_4_0
    have k7_5_0 : w7.cell? ⟨w6.heap.size, 0, none⟩ = some (.slice A6 k cp6) := (hb7.cell (p := ⟨w6.heap.size, 0, none⟩) (by show w6.heap.size < _; (try simp only [World.size_alloc]); omega)).trans (by first | rfl | (simp; done) | (simp [*]; done))
    have bl7_0 : w.heap.size < w7.heap.size := World.block_lt_of_cell? _ _ k7_0_0
    have bl7_1 : w.heap.size + 1 < w7.heap.size := World.block_lt_of_cell? _ _ k7_1_0
    have bl7_2 : bW < w7.heap.size := World.block_lt_of_cell? _ _ k7_2_0
    have bl7_3 : w4.heap.size < w7.heap.size := World.block_lt_of_cell? _ _ k7_3_0
    have bl7_4 : w5.heap.size < w7.heap.size := World.block_lt_of_cell? _ _ k7_4_0
    have bl7_5 : w6.heap.size < w7.heap.size := World.block_lt_of_cell? _ _ k7_5_0
    have HW7 := hid (HW6.out.mono hL7)
    have HX7 := hid (HX6.out.mono hL7)
    have HY7 := hid (HY6.out.mono hL7)
    have HG7 := hid (HG6.out.mono hL7)
    clear hb7 hL7
    clear k6_0_0 k6_1_0 k6_2_0 k6_3_0 k6_4_0 HW6 HX6 HY6 HG6
    go_wp2_with (fail)
    go_cut [58] (fun s58 wx => CutG (s58 = .bool false) (wx.cell? ⟨w.heap.size, 0, none⟩ = some (.slice A n cp) ∧ wx.cell? ⟨w.heap.size + 1, 0, none⟩ = some (.slice B m cp') ∧ wx.cell? ⟨bW, 0, none⟩ = some (.slice AW k cpW) ∧ wx.cell? ⟨w4.heap.size, 0, none⟩ = some (.slice (some ⟨g4, 0, none⟩) n n) ∧ wx.cell? ⟨w5.heap.size, 0, none⟩ = some (.slice (some ⟨g5, 0, none⟩) m m) ∧ wx.cell? ⟨w6.heap.size, 0, none⟩ = some (.slice A6 k cp6) ∧ Hid (RdB wx w3.heap.size AW zs) ∧ Hid (Ow wx w3.heap.size 99 (some ⟨g4, 0, none⟩) xs) ∧ Hid (Ow wx (w4.heap.size + 1) 99 (some ⟨g5, 0, none⟩) ys) ∧ Hid (Ow wx (w5.heap.size + 1) 99 A6 zs) ∧ w7.heap.size ≤ wx.heap.size ∧ Below w.heap.size w wx))
    case first =>
      have yk7_0_0 : w7.drew.cell? ⟨w.heap.size, 0, none⟩ = some (.slice A n cp) := k7_0_0
      have yk7_1_0 : w7.drew.cell? ⟨w.heap.size + 1, 0, none⟩ = some (.slice B m cp') := k7_1_0
      have yk7_2_0 : w7.drew.cell? ⟨bW, 0, none⟩ = some (.slice AW k cpW) := k7_2_0
      have yk7_3_0 : w7.drew.cell? ⟨w4.heap.size, 0, none⟩ = some (.slice (some ⟨g4, 0, none⟩) n n) := k7_3_0
      have yk7_4_0 : w7.drew.cell? ⟨w5.heap.size, 0, none⟩ = some (.slice (some ⟨g5, 0, none⟩) m m) := k7_4_0
      have yk7_5_0 : w7.drew.cell? ⟨w6.heap.size, 0, none⟩ = some (.slice A6 k cp6) := k7_5_0
      have hBz := hB7.size
      go_region_held3 (fun w' => w'.cell? ⟨w.heap.size, 0, none⟩ = some (.slice A n cp) ∧ w'.cell? ⟨w.heap.size + 1, 0, none⟩ = some (.slice B m cp') ∧ w'.cell? ⟨bW, 0, none⟩ = some (.slice AW k cpW) ∧ w'.cell? ⟨w4.heap.size, 0, none⟩ = some (.slice (some ⟨g4, 0, none⟩) n n) ∧ w'.cell? ⟨w5.heap.size, 0, none⟩ = some (.slice (some ⟨g5, 0, none⟩) m m) ∧ w'.cell? ⟨w6.heap.size, 0, none⟩ = some (.slice A6 k cp6)) (first | (with_reducible exact ⟨yk7_0_0, yk7_1_0, yk7_2_0, yk7_3_0, yk7_4_0, yk7_5_0⟩) | (with_reducible exact ⟨k7_0_0, k7_1_0, k7_2_0, k7_3_0, k7_4_0, k7_5_0⟩) | (go_split_ands; with_reducible exact ⟨kc hv0 (by with_reducible assumption), kc hv0 (by with_reducible assumption), kc hv0 (by with_reducible assumption), kc hv0 (by with_reducible assumption), kc hv0 (by with_reducible assumption), kc hv0 (by with_reducible assumption)⟩) | (go_split_ands; with_reducible exact ⟨kc hv1 (by with_reducible assumption), kc hv1 (by with_reducible assumption), kc hv1 (by with_reducible assumption), kc hv1 (by with_reducible assumption), kc hv1 (by with_reducible assumption), kc hv1 (by with_reducible assumption)⟩)) (first | (go_at_call 27; ((with_reducible refine (tb (xs := xs) ?_ HN.out bn).mono ?_); (exact HA.out.mono (by (repeat' (first | (with_reducible exact Below.refl _ _) | (with_reducible assumption) | (with_reducible refine Below.alloc ?_ ?_ _) | (with_reducible refine Below.drew ?_) | (with_reducible refine below_drewN ?_ _) | (with_reducible refine Below.setCell ?_ ?_ _) | (with_reducible refine chain ?_ (by assumption) ?_) | omega | (simp; done) | (simp; omega))))); rintro ee v0 ⟨g7, rfl, hK0, hg7, hv0⟩; have hq0 := hv0.size; (try simp only [World.size_drew, World.size_alloc] at hq0))) | (go_at_call 29; ((with_reducible refine (eqb (xs := xs) ?_ ?_ HN.out bn).mono ?_); (exact HX7.out.rd.mono (by (repeat' (first | (with_reducible exact Below.refl _ _) | (with_reducible assumption) | (with_reducible refine Below.alloc ?_ ?_ _) | (with_reducible refine Below.drew ?_) | (with_reducible refine below_drewN ?_ _) | (with_reducible refine Below.setCell ?_ ?_ _) | (with_reducible refine chain ?_ (by assumption) ?_) | omega | (simp; done) | (simp; omega))))); (exact hK0.rd); rintro ee v1 ⟨rfl, hv1⟩; have hq1 := hv1.size; (try simp only [World.size_drew, World.size_alloc] at hq1))))
      all_goals (go_wp2_with fail; go_meet)
      all_goals go_split_ands
      all_goals (refine ⟨rfl, (by with_reducible assumption), (by with_reducible assumption), (by with_reducible assumption), (by with_reducible assumption), (by with_reducible assumption), (by with_reducible assumption), (by exact HW7.out.mono (by (repeat' (first | (with_reducible exact Below.refl _ _) | (with_reducible assumption) | (with_reducible refine Below.alloc ?_ ?_ _) | (with_reducible refine Below.drew ?_) | (with_reducible refine below_drewN ?_ _) | (with_reducible refine Below.setCell ?_ ?_ _) | (with_reducible refine chain ?_ (by assumption) ?_) | omega | (simp; done) | (simp; omega))))), (by exact HX7.out.mono (by (repeat' (first | (with_reducible exact Below.refl _ _) | (with_reducible assumption) | (with_reducible refine Below.alloc ?_ ?_ _) | (with_reducible refine Below.drew ?_) | (with_reducible refine below_drewN ?_ _) | (with_reducible refine Below.setCell ?_ ?_ _) | (with_reducible refine chain ?_ (by assumption) ?_) | omega | (simp; done) | (simp; omega))))), (by exact HY7.out.mono (by (repeat' (first | (with_reducible exact Below.refl _ _) | (with_reducible assumption) | (with_reducible refine Below.alloc ?_ ?_ _) | (with_reducible refine Below.drew ?_) | (with_reducible refine below_drewN ?_ _) | (with_reducible refine Below.setCell ?_ ?_ _) | (with_reducible refine chain ?_ (by assumption) ?_) | omega | (simp; done) | (simp; omega))))), (by exact HG7.out.mono (by (repeat' (first | (with_reducible exact Below.refl _ _) | (with_reducible assumption) | (with_reducible refine Below.alloc ?_ ?_ _) | (with_reducible refine Below.drew ?_) | (with_reducible refine below_drewN ?_ _) | (with_reducible refine Below.setCell ?_ ?_ _) | (with_reducible refine chain ?_ (by assumption) ?_) | omega | (simp; done) | (simp; omega))))), (by (try simp only [World.size_alloc, World.size_drew, World.size_setCell]); omega), (by (repeat' (first | (with_reducible exact Below.refl _ _) | (with_reducible assumption) | (with_reducible refine Below.alloc ?_ ?_ _) | (with_reducible refine Below.drew ?_) | (with_reducible refine below_drewN ?_ _) | (with_reducible refine Below.setCell ?_ ?_ _) | (with_reducible refine chain ?_ (by assumption) ?_) | omega | (simp; done) | (simp; omega))))⟩)
    case rest =>
      obtain ⟨w8, rfl⟩ : ∃ w8, w8 = wc := ⟨_, rfl⟩
      clear k7_0_0 k7_1_0 k7_2_0 k7_3_0 k7_4_0 k7_5_0 HW7 HX7 HY7 HG7
      obtain ⟨rfl, k8_0_0, k8_1_0, k8_2_0, k8_3_0, k8_4_0, k8_5_0, HW8, HX8, HY8, HG8, hz8, hB8⟩ := hcut
      have bl8_0 : w.heap.size < w8.heap.size := World.block_lt_of_cell? _ _ k8_0_0
      have bl8_1 : w.heap.size + 1 < w8.heap.size := World.block_lt_of_cell? _ _ k8_1_0
      have bl8_2 : bW < w8.heap.size := World.block_lt_of_cell? _ _ k8_2_0
      have bl8_3 : w4.heap.size < w8.heap.size := World.block_lt_of_cell? _ _ k8_3_0
      have bl8_4 : w5.heap.size < w8.heap.size := World.block_lt_of_cell? _ _ k8_4_0
      have bl8_5 : w6.heap.size < w8.heap.size := World.block_lt_of_cell? _ _ k8_5_0
      go_wp2_with (fail)
      go_cut [63] (fun s63 wx => CutG (s63 = .bool false) (wx.cell? ⟨w.heap.size, 0, none⟩ = some (.slice A n cp) ∧ wx.cell? ⟨w.heap.size + 1, 0, none⟩ = some (.slice B m cp') ∧ wx.cell? ⟨bW, 0, none⟩ = some (.slice AW k cpW) ∧ wx.cell? ⟨w4.heap.size, 0, none⟩ = some (.slice (some ⟨g4, 0, none⟩) n n) ∧ wx.cell? ⟨w5.heap.size, 0, none⟩ = some (.slice (some ⟨g5, 0, none⟩) m m) ∧ wx.cell? ⟨w6.heap.size, 0, none⟩ = some (.slice A6 k cp6) ∧ Hid (RdB wx w3.heap.size AW zs) ∧ Hid (Ow wx w3.heap.size 99 (some ⟨g4, 0, none⟩) xs) ∧ Hid (Ow wx (w4.heap.size + 1) 99 (some ⟨g5, 0, none⟩) ys) ∧ Hid (Ow wx (w5.heap.size + 1) 99 A6 zs) ∧ w8.heap.size ≤ wx.heap.size ∧ Below w.heap.size w wx))
      case first =>
        have yk8_0_0 : w8.drew.cell? ⟨w.heap.size, 0, none⟩ = some (.slice A n cp) := k8_0_0
        have yk8_1_0 : w8.drew.cell? ⟨w.heap.size + 1, 0, none⟩ = some (.slice B m cp') := k8_1_0
        have yk8_2_0 : w8.drew.cell? ⟨bW, 0, none⟩ = some (.slice AW k cpW) := k8_2_0
        have yk8_3_0 : w8.drew.cell? ⟨w4.heap.size, 0, none⟩ = some (.slice (some ⟨g4, 0, none⟩) n n) := k8_3_0
        have yk8_4_0 : w8.drew.cell? ⟨w5.heap.size, 0, none⟩ = some (.slice (some ⟨g5, 0, none⟩) m m) := k8_4_0
        have yk8_5_0 : w8.drew.cell? ⟨w6.heap.size, 0, none⟩ = some (.slice A6 k cp6) := k8_5_0
        have hBz := hB8.size
        go_region_held3 (fun w' => w'.cell? ⟨w.heap.size, 0, none⟩ = some (.slice A n cp) ∧ w'.cell? ⟨w.heap.size + 1, 0, none⟩ = some (.slice B m cp') ∧ w'.cell? ⟨bW, 0, none⟩ = some (.slice AW k cpW) ∧ w'.cell? ⟨w4.heap.size, 0, none⟩ = some (.slice (some ⟨g4, 0, none⟩) n n) ∧ w'.cell? ⟨w5.heap.size, 0, none⟩ = some (.slice (some ⟨g5, 0, none⟩) m m) ∧ w'.cell? ⟨w6.heap.size, 0, none⟩ = some (.slice A6 k cp6)) (first | (with_reducible exact ⟨yk8_0_0, yk8_1_0, yk8_2_0, yk8_3_0, yk8_4_0, yk8_5_0⟩) | (with_reducible exact ⟨k8_0_0, k8_1_0, k8_2_0, k8_3_0, k8_4_0, k8_5_0⟩) | (go_split_ands; with_reducible exact ⟨kc hv0 (by with_reducible assumption), kc hv0 (by with_reducible assumption), kc hv0 (by with_reducible assumption), kc hv0 (by with_reducible assumption), kc hv0 (by with_reducible assumption), kc hv0 (by with_reducible assumption)⟩) | (go_split_ands; with_reducible exact ⟨kc hv1 (by with_reducible assumption), kc hv1 (by with_reducible assumption), kc hv1 (by with_reducible assumption), kc hv1 (by with_reducible assumption), kc hv1 (by with_reducible assumption), kc hv1 (by with_reducible assumption)⟩)) (first | (go_at_call 27; ((with_reducible refine (tb (xs := ys) ?_ HM.out bm).mono ?_); (exact HB.out.mono (by (repeat' (first | (with_reducible exact Below.refl _ _) | (with_reducible assumption) | (with_reducible refine Below.alloc ?_ ?_ _) | (with_reducible refine Below.drew ?_) | (with_reducible refine below_drewN ?_ _) | (with_reducible refine Below.setCell ?_ ?_ _) | (with_reducible refine chain ?_ (by assumption) ?_) | omega | (simp; done) | (simp; omega))))); rintro ee v0 ⟨g8, rfl, hK0, hg8, hv0⟩; have hq0 := hv0.size; (try simp only [World.size_drew, World.size_alloc] at hq0))) | (go_at_call 29; ((with_reducible refine (eqb (xs := ys) ?_ ?_ HM.out bm).mono ?_); (exact HY8.out.rd.mono (by (repeat' (first | (with_reducible exact Below.refl _ _) | (with_reducible assumption) | (with_reducible refine Below.alloc ?_ ?_ _) | (with_reducible refine Below.drew ?_) | (with_reducible refine below_drewN ?_ _) | (with_reducible refine Below.setCell ?_ ?_ _) | (with_reducible refine chain ?_ (by assumption) ?_) | omega | (simp; done) | (simp; omega))))); (exact hK0.rd); rintro ee v1 ⟨rfl, hv1⟩; have hq1 := hv1.size; (try simp only [World.size_drew, World.size_alloc] at hq1))))
        all_goals (go_wp2_with fail; go_meet)
        all_goals go_split_ands
        all_goals (refine ⟨rfl, (by with_reducible assumption), (by with_reducible assumption), (by with_reducible assumption), (by with_reducible assumption), (by with_reducible assumption), (by with_reducible assumption), (by exact HW8.out.mono (by (repeat' (first | (with_reducible exact Below.refl _ _) | (with_reducible assumption) | (with_reducible refine Below.alloc ?_ ?_ _) | (with_reducible refine Below.drew ?_) | (with_reducible refine below_drewN ?_ _) | (with_reducible refine Below.setCell ?_ ?_ _) | (with_reducible refine chain ?_ (by assumption) ?_) | omega | (simp; done) | (simp; omega))))), (by exact HX8.out.mono (by (repeat' (first | (with_reducible exact Below.refl _ _) | (with_reducible assumption) | (with_reducible refine Below.alloc ?_ ?_ _) | (with_reducible refine Below.drew ?_) | (with_reducible refine below_drewN ?_ _) | (with_reducible refine Below.setCell ?_ ?_ _) | (with_reducible refine chain ?_ (by assumption) ?_) | omega | (simp; done) | (simp; omega))))), (by exact HY8.out.mono (by (repeat' (first | (with_reducible exact Below.refl _ _) | (with_reducible assumption) | (with_reducible refine Below.alloc ?_ ?_ _) | (with_reducible refine Below.drew ?_) | (with_reducible refine below_drewN ?_ _) | (with_reducible refine Below.setCell ?_ ?_ _) | (with_reducible refine chain ?_ (by assumption) ?_) | omega | (simp; done) | (simp; omega))))), (by exact HG8.out.mono (by (repeat' (first | (with_reducible exact Below.refl _ _) | (with_reducible assumption) | (with_reducible refine Below.alloc ?_ ?_ _) | (with_reducible refine Below.drew ?_) | (with_reducible refine below_drewN ?_ _) | (with_reducible refine Below.setCell ?_ ?_ _) | (with_reducible refine chain ?_ (by assumption) ?_) | omega | (simp; done) | (simp; omega))))), (by (try simp only [World.size_alloc, World.size_drew, World.size_setCell]); omega), (by (repeat' (first | (with_reducible exact Below.refl _ _) | (with_reducible assumption) | (with_reducible refine Below.alloc ?_ ?_ _) | (with_reducible refine Below.drew ?_) | (with_reducible refine below_drewN ?_ _) | (with_reducible refine Below.setCell ?_ ?_ _) | (with_reducible refine chain ?_ (by assumption) ?_) | omega | (simp; done) | (simp; omega))))⟩)
      case rest =>
        obtain ⟨w9, rfl⟩ : ∃ w9, w9 = wc := ⟨_, rfl⟩
        clear k8_0_0 k8_1_0 k8_2_0 k8_3_0 k8_4_0 k8_5_0 HW8 HX8 HY8 HG8
        obtain ⟨rfl, k9_0_0, k9_1_0, k9_2_0, k9_3_0, k9_4_0, k9_5_0, HW9, HX9, HY9, HG9, hz9, hB9⟩ := hcut
        have bl9_0 : w.heap.size < w9.heap.size := World.block_lt_of_cell? _ _ k9_0_0
        have bl9_1 : w.heap.size + 1 < w9.heap.size := World.block_lt_of_cell? _ _ k9_1_0
        have bl9_2 : bW < w9.heap.size := World.block_lt_of_cell? _ _ k9_2_0
        have bl9_3 : w4.heap.size < w9.heap.size := World.block_lt_of_cell? _ _ k9_3_0
        have bl9_4 : w5.heap.size < w9.heap.size := World.block_lt_of_cell? _ _ k9_4_0
        have bl9_5 : w6.heap.size < w9.heap.size := World.block_lt_of_cell? _ _ k9_5_0
        go_wp2_with (fail)
        refine (mkb (B := w3.heap.size) (xs := xs) ?_ HN.out bn (by decide) (by decide)).mono ?_
        · exact HX9.out
        rintro ee w10 ⟨rfl, hO10, hG10⟩
        have hz10 := hG10.size
        have hB10 : Below w.heap.size w w10 := Below.grown hB9 hG10 hB9.size (fun r hr => by have := hr_X r hr; omega)
        have k10_0_0 : w10.cell? ⟨w.heap.size, 0, none⟩ = some (.slice A n cp) := hG10.cell k9_0_0 (fun e => by have := hr_X (w.heap.size) e.symm; omega)
        have k10_1_0 : w10.cell? ⟨w.heap.size + 1, 0, none⟩ = some (.slice B m cp') := hG10.cell k9_1_0 (fun e => by have := hr_X (w.heap.size + 1) e.symm; omega)
        have k10_2_0 : w10.cell? ⟨bW, 0, none⟩ = some (.slice AW k cpW) := hG10.cell k9_2_0 (fun e => by have := hr_X (bW) e.symm; omega)
        have k10_3_0 : w10.cell? ⟨w4.heap.size, 0, none⟩ = some (.slice (some ⟨g4, 0, none⟩) n n) := hG10.cell k9_3_0 (fun e => by have := hr_X (w4.heap.size) e.symm; omega)
        have k10_4_0 : w10.cell? ⟨w5.heap.size, 0, none⟩ = some (.slice (some ⟨g5, 0, none⟩) m m) := hG10.cell k9_4_0 (fun e => by have := hr_X (w5.heap.size) e.symm; omega)
        have k10_5_0 : w10.cell? ⟨w6.heap.size, 0, none⟩ = some (.slice A6 k cp6) := hG10.cell k9_5_0 (fun e => by have := hr_X (w6.heap.size) e.symm; omega)
        have HW10 := hid (HW9.out.grown hG10 (fun r hr => by have := hr_X r hr; omega))
        have HY10 := hid (HY9.out.grown hG10 (fun r hr => by have := hr_X r hr; omega))
        have HG10 := hid (HG9.out.grown hG10 (fun r hr => by have := hr_X r hr; omega))
        have bl10_0 : w.heap.size < w10.heap.size := World.block_lt_of_cell? _ _ k10_0_0
        have bl10_1 : w.heap.size + 1 < w10.heap.size := World.block_lt_of_cell? _ _ k10_1_0
        have bl10_2 : bW < w10.heap.size := World.block_lt_of_cell? _ _ k10_2_0
        have bl10_3 : w4.heap.size < w10.heap.size := World.block_lt_of_cell? _ _ k10_3_0
        have bl10_4 : w5.heap.size < w10.heap.size := World.block_lt_of_cell? _ _ k10_4_0
        have bl10_5 : w6.heap.size < w10.heap.size := World.block_lt_of_cell? _ _ k10_5_0
        have HX10 := hid hO10
        clear hO10 hG10
        clear k9_0_0 k9_1_0 k9_2_0 k9_3_0 k9_4_0 k9_5_0 HW9 HY9 HG9 HX9
        clear HX10
        go_wp2_with (fail)
        refine (mkb (B := w4.heap.size + 1) (xs := ys) ?_ HM.out bm (by omega) (by omega)).mono ?_
        · exact HY10.out
        rintro ee w11 ⟨rfl, hO11, hG11⟩
        have hz11 := hG11.size
        have hB11 : Below w.heap.size w w11 := Below.grown hB10 hG11 hB10.size (fun r hr => by have := hr_Y r hr; omega)
        have k11_0_0 : w11.cell? ⟨w.heap.size, 0, none⟩ = some (.slice A n cp) := hG11.cell k10_0_0 (fun e => by have := hr_Y (w.heap.size) e.symm; omega)
        have k11_1_0 : w11.cell? ⟨w.heap.size + 1, 0, none⟩ = some (.slice B m cp') := hG11.cell k10_1_0 (fun e => by have := hr_Y (w.heap.size + 1) e.symm; omega)
        have k11_2_0 : w11.cell? ⟨bW, 0, none⟩ = some (.slice AW k cpW) := hG11.cell k10_2_0 (fun e => by have := hr_Y (bW) e.symm; omega)
        have k11_3_0 : w11.cell? ⟨w4.heap.size, 0, none⟩ = some (.slice (some ⟨g4, 0, none⟩) n n) := hG11.cell k10_3_0 (fun e => by have := hr_Y (w4.heap.size) e.symm; omega)
        have k11_4_0 : w11.cell? ⟨w5.heap.size, 0, none⟩ = some (.slice (some ⟨g5, 0, none⟩) m m) := hG11.cell k10_4_0 (fun e => by have := hr_Y (w5.heap.size) e.symm; omega)
        have k11_5_0 : w11.cell? ⟨w6.heap.size, 0, none⟩ = some (.slice A6 k cp6) := hG11.cell k10_5_0 (fun e => by have := hr_Y (w6.heap.size) e.symm; omega)
        have HW11 := hid (HW10.out.grown hG11 (fun r hr => by have := hr_Y r hr; omega))
        have HG11 := hid (HG10.out.grown hG11 (fun r hr => by have := hr_Y r hr; omega))
        have bl11_0 : w.heap.size < w11.heap.size := World.block_lt_of_cell? _ _ k11_0_0
        have bl11_1 : w.heap.size + 1 < w11.heap.size := World.block_lt_of_cell? _ _ k11_1_0
        have bl11_2 : bW < w11.heap.size := World.block_lt_of_cell? _ _ k11_2_0
        have bl11_3 : w4.heap.size < w11.heap.size := World.block_lt_of_cell? _ _ k11_3_0
        have bl11_4 : w5.heap.size < w11.heap.size := World.block_lt_of_cell? _ _ k11_4_0
        have bl11_5 : w6.heap.size < w11.heap.size := World.block_lt_of_cell? _ _ k11_5_0
        have HY11 := hid hO11
        clear hO11 hG11
        clear k10_0_0 k10_1_0 k10_2_0 k10_3_0 k10_4_0 k10_5_0 HW10 HG10 HY10
        clear HY11
        go_wp2_with (fail)
        refine (eqb (xs := zs) ?_ ?_ HZ.out hk).mono ?_
        · exact HG11.out.rd.mono (by (repeat' (first | (with_reducible exact Below.refl _ _) | (with_reducible assumption) | (with_reducible refine Below.alloc ?_ ?_ _) | (with_reducible refine Below.drew ?_) | (with_reducible refine below_drewN ?_ _) | (with_reducible refine Below.setCell ?_ ?_ _) | (with_reducible refine chain ?_ (by assumption) ?_) | omega | (simp; done) | (simp; omega))))
        · exact HW11.out.rd.mono (by (repeat' (first | (with_reducible exact Below.refl _ _) | (with_reducible assumption) | (with_reducible refine Below.alloc ?_ ?_ _) | (with_reducible refine Below.drew ?_) | (with_reducible refine below_drewN ?_ _) | (with_reducible refine Below.setCell ?_ ?_ _) | (with_reducible refine chain ?_ (by assumption) ?_) | omega | (simp; done) | (simp; omega))))
        rintro ee w12 ⟨rfl, hb12⟩
        have hL12 : Below w11.heap.size w11 w12 := by (repeat' (first | (with_reducible exact Below.refl _ _) | (with_reducible assumption) | (with_reducible refine Below.alloc ?_ ?_ _) | (with_reducible refine Below.drew ?_) | (with_reducible refine below_drewN ?_ _) | (with_reducible refine Below.setCell ?_ ?_ _) | (with_reducible refine chain ?_ (by assumption) ?_) | omega | (simp; done) | (simp; omega)))
        have hz12 := hb12.size
        (try simp only [World.size_alloc] at hz12)
        have hB12 : Below w.heap.size w w12 := chain hB11 hL12 hB11.size
        have k12_0_0 : w12.cell? ⟨w.heap.size, 0, none⟩ = some (.slice A n cp) := (hL12.cell (p := ⟨w.heap.size, 0, none⟩) (by show w.heap.size < w11.heap.size; omega)).trans k11_0_0
        have k12_1_0 : w12.cell? ⟨w.heap.size + 1, 0, none⟩ = some (.slice B m cp') := (hL12.cell (p := ⟨w.heap.size + 1, 0, none⟩) (by show w.heap.size + 1 < w11.heap.size; omega)).trans k11_1_0
        have k12_2_0 : w12.cell? ⟨bW, 0, none⟩ = some (.slice AW k cpW) := (hL12.cell (p := ⟨bW, 0, none⟩) (by show bW < w11.heap.size; omega)).trans k11_2_0
        have k12_3_0 : w12.cell? ⟨w4.heap.size, 0, none⟩ = some (.slice (some ⟨g4, 0, none⟩) n n) := (hL12.cell (p := ⟨w4.heap.size, 0, none⟩) (by show w4.heap.size < w11.heap.size; omega)).trans k11_3_0
        have k12_4_0 : w12.cell? ⟨w5.heap.size, 0, none⟩ = some (.slice (some ⟨g5, 0, none⟩) m m) := (hL12.cell (p := ⟨w5.heap.size, 0, none⟩) (by show w5.heap.size < w11.heap.size; omega)).trans k11_4_0
        have k12_5_0 : w12.cell? ⟨w6.heap.size, 0, none⟩ = some (.slice A6 k cp6) := (hL12.cell (p := ⟨w6.heap.size, 0, none⟩) (by show w6.heap.size < w11.heap.size; omega)).trans k11_5_0
        have bl12_0 : w.heap.size < w12.heap.size := World.block_lt_of_cell? _ _ k12_0_0
        have bl12_1 : w.heap.size + 1 < w12.heap.size := World.block_lt_of_cell? _ _ k12_1_0
        have bl12_2 : bW < w12.heap.size := World.block_lt_of_cell? _ _ k12_2_0
        have bl12_3 : w4.heap.size < w12.heap.size := World.block_lt_of_cell? _ _ k12_3_0
        have bl12_4 : w5.heap.size < w12.heap.size := World.block_lt_of_cell? _ _ k12_4_0
        have bl12_5 : w6.heap.size < w12.heap.size := World.block_lt_of_cell? _ _ k12_5_0
        have HW12 := hid (HW11.out.mono hL12)
        have HG12 := hid (HG11.out.mono hL12)
        clear hb12 hL12
        clear k11_0_0 k11_1_0 k11_2_0 k11_3_0 k11_4_0 k11_5_0 HW11 HG11
        go_wp2_with (fail)
        refine (mkb (B := w5.heap.size + 1) (xs := zs) ?_ HZ.out hk (by decide) (by decide)).mono ?_
        · exact HG12.out
        rintro ee w13 ⟨rfl, hO13, hG13⟩
        have hz13 := hG13.size
        have hB13 : Below w.heap.size w w13 := Below.grown hB12 hG13 hB12.size (fun r hr => by have := hr_G r hr; omega)
        have k13_0_0 : w13.cell? ⟨w.heap.size, 0, none⟩ = some (.slice A n cp) := hG13.cell k12_0_0 (fun e => by have := hr_G (w.heap.size) e.symm; omega)
        have k13_1_0 : w13.cell? ⟨w.heap.size + 1, 0, none⟩ = some (.slice B m cp') := hG13.cell k12_1_0 (fun e => by have := hr_G (w.heap.size + 1) e.symm; omega)
        have k13_2_0 : w13.cell? ⟨bW, 0, none⟩ = some (.slice AW k cpW) := hG13.cell k12_2_0 (fun e => by have := hr_G (bW) e.symm; omega)
        have k13_3_0 : w13.cell? ⟨w4.heap.size, 0, none⟩ = some (.slice (some ⟨g4, 0, none⟩) n n) := hG13.cell k12_3_0 (fun e => by have := hr_G (w4.heap.size) e.symm; omega)
        have k13_4_0 : w13.cell? ⟨w5.heap.size, 0, none⟩ = some (.slice (some ⟨g5, 0, none⟩) m m) := hG13.cell k12_4_0 (fun e => by have := hr_G (w5.heap.size) e.symm; omega)
        have k13_5_0 : w13.cell? ⟨w6.heap.size, 0, none⟩ = some (.slice A6 k cp6) := hG13.cell k12_5_0 (fun e => by have := hr_G (w6.heap.size) e.symm; omega)
        have HW13 := hid (HW12.out.grown hG13 (fun r hr => by have := hr_G r hr; omega))
        have bl13_0 : w.heap.size < w13.heap.size := World.block_lt_of_cell? _ _ k13_0_0
        have bl13_1 : w.heap.size + 1 < w13.heap.size := World.block_lt_of_cell? _ _ k13_1_0
        have bl13_2 : bW < w13.heap.size := World.block_lt_of_cell? _ _ k13_2_0
        have bl13_3 : w4.heap.size < w13.heap.size := World.block_lt_of_cell? _ _ k13_3_0
        have bl13_4 : w5.heap.size < w13.heap.size := World.block_lt_of_cell? _ _ k13_4_0
        have bl13_5 : w6.heap.size < w13.heap.size := World.block_lt_of_cell? _ _ k13_5_0
        have HG13 := hid hO13
        clear hO13 hG13
        clear k12_0_0 k12_1_0 k12_2_0 k12_3_0 k12_4_0 k12_5_0 HW12 HG12
        go_wp2_with (fail)
        refine (hdb ?_ hk (by decide) (by decide)).mono ?_
        · exact HG13.out.rd.mono (by (repeat' (first | (with_reducible exact Below.refl _ _) | (with_reducible assumption) | (with_reducible refine Below.alloc ?_ ?_ _) | (with_reducible refine Below.drew ?_) | (with_reducible refine below_drewN ?_ _) | (with_reducible refine Below.setCell ?_ ?_ _) | (with_reducible refine chain ?_ (by assumption) ?_) | omega | (simp; done) | (simp; omega))))
        rintro ee w14 ⟨rfl, hb14⟩
        have hL14 : Below w13.heap.size w13 w14 := by (repeat' (first | (with_reducible exact Below.refl _ _) | (with_reducible assumption) | (with_reducible refine Below.alloc ?_ ?_ _) | (with_reducible refine Below.drew ?_) | (with_reducible refine below_drewN ?_ _) | (with_reducible refine Below.setCell ?_ ?_ _) | (with_reducible refine chain ?_ (by assumption) ?_) | omega | (simp; done) | (simp; omega)))
        have hz14 := hb14.size
        (try simp only [World.size_alloc] at hz14)
        have hB14 : Below w.heap.size w w14 := chain hB13 hL14 hB13.size
        have k14_0_0 : w14.cell? ⟨w.heap.size, 0, none⟩ = some (.slice A n cp) := (hL14.cell (p := ⟨w.heap.size, 0, none⟩) (by show w.heap.size < w13.heap.size; omega)).trans k13_0_0
        have k14_1_0 : w14.cell? ⟨w.heap.size + 1, 0, none⟩ = some (.slice B m cp') := (hL14.cell (p := ⟨w.heap.size + 1, 0, none⟩) (by show w.heap.size + 1 < w13.heap.size; omega)).trans k13_1_0
        have k14_2_0 : w14.cell? ⟨bW, 0, none⟩ = some (.slice AW k cpW) := (hL14.cell (p := ⟨bW, 0, none⟩) (by show bW < w13.heap.size; omega)).trans k13_2_0
        have k14_3_0 : w14.cell? ⟨w4.heap.size, 0, none⟩ = some (.slice (some ⟨g4, 0, none⟩) n n) := (hL14.cell (p := ⟨w4.heap.size, 0, none⟩) (by show w4.heap.size < w13.heap.size; omega)).trans k13_3_0
        have k14_4_0 : w14.cell? ⟨w5.heap.size, 0, none⟩ = some (.slice (some ⟨g5, 0, none⟩) m m) := (hL14.cell (p := ⟨w5.heap.size, 0, none⟩) (by show w5.heap.size < w13.heap.size; omega)).trans k13_4_0
        have k14_5_0 : w14.cell? ⟨w6.heap.size, 0, none⟩ = some (.slice A6 k cp6) := (hL14.cell (p := ⟨w6.heap.size, 0, none⟩) (by show w6.heap.size < w13.heap.size; omega)).trans k13_5_0
        have bl14_0 : w.heap.size < w14.heap.size := World.block_lt_of_cell? _ _ k14_0_0
        have bl14_1 : w.heap.size + 1 < w14.heap.size := World.block_lt_of_cell? _ _ k14_1_0
        have bl14_2 : bW < w14.heap.size := World.block_lt_of_cell? _ _ k14_2_0
        have bl14_3 : w4.heap.size < w14.heap.size := World.block_lt_of_cell? _ _ k14_3_0
        have bl14_4 : w5.heap.size < w14.heap.size := World.block_lt_of_cell? _ _ k14_4_0
        have bl14_5 : w6.heap.size < w14.heap.size := World.block_lt_of_cell? _ _ k14_5_0
        have HW14 := hid (HW13.out.mono hL14)
        have HG14 := hid (HG13.out.mono hL14)
        clear hb14 hL14
        clear k13_0_0 k13_1_0 k13_2_0 k13_3_0 k13_4_0 k13_5_0 HW13 HG13
        go_wp2_with (fail)
        go_cut [15, 16] (fun s15 s16 wx => CutG (∃ (b : Nat) (A : Option Addr) (cp : Nat), s15 = .pointer (some ⟨b, 0, none⟩) ∧ s16 = .bool ok ∧ wx.cell? ⟨b, 0, none⟩ = some (.slice A k cp) ∧ Hid (RdB wx wx.heap.size A zs)) (wx.cell? ⟨w.heap.size, 0, none⟩ = some (.slice A n cp) ∧ wx.cell? ⟨w.heap.size + 1, 0, none⟩ = some (.slice B m cp') ∧ wx.cell? ⟨bW, 0, none⟩ = some (.slice AW k cpW) ∧ wx.cell? ⟨w4.heap.size, 0, none⟩ = some (.slice (some ⟨g4, 0, none⟩) n n) ∧ wx.cell? ⟨w5.heap.size, 0, none⟩ = some (.slice (some ⟨g5, 0, none⟩) m m) ∧ wx.cell? ⟨w6.heap.size, 0, none⟩ = some (.slice A6 k cp6) ∧ Hid (RdB wx w3.heap.size AW zs) ∧ Hid (Ow wx (w5.heap.size + 1) 99 A6 (mks 1 k)) ∧ w14.heap.size ≤ wx.heap.size ∧ Below w.heap.size w wx))
        case first =>
          have yk14_0_0 : w14.drew.cell? ⟨w.heap.size, 0, none⟩ = some (.slice A n cp) := k14_0_0
          have yk14_1_0 : w14.drew.cell? ⟨w.heap.size + 1, 0, none⟩ = some (.slice B m cp') := k14_1_0
          have yk14_2_0 : w14.drew.cell? ⟨bW, 0, none⟩ = some (.slice AW k cpW) := k14_2_0
          have yk14_3_0 : w14.drew.cell? ⟨w4.heap.size, 0, none⟩ = some (.slice (some ⟨g4, 0, none⟩) n n) := k14_3_0
          have yk14_4_0 : w14.drew.cell? ⟨w5.heap.size, 0, none⟩ = some (.slice (some ⟨g5, 0, none⟩) m m) := k14_4_0
          have yk14_5_0 : w14.drew.cell? ⟨w6.heap.size, 0, none⟩ = some (.slice A6 k cp6) := k14_5_0
          have hBz := hB14.size
          go_region_held3 (fun w' => w'.cell? ⟨w.heap.size, 0, none⟩ = some (.slice A n cp) ∧ w'.cell? ⟨w.heap.size + 1, 0, none⟩ = some (.slice B m cp') ∧ w'.cell? ⟨bW, 0, none⟩ = some (.slice AW k cpW) ∧ w'.cell? ⟨w4.heap.size, 0, none⟩ = some (.slice (some ⟨g4, 0, none⟩) n n) ∧ w'.cell? ⟨w5.heap.size, 0, none⟩ = some (.slice (some ⟨g5, 0, none⟩) m m) ∧ w'.cell? ⟨w6.heap.size, 0, none⟩ = some (.slice A6 k cp6)) (first | (with_reducible exact ⟨yk14_0_0, yk14_1_0, yk14_2_0, yk14_3_0, yk14_4_0, yk14_5_0⟩) | (with_reducible exact ⟨k14_0_0, k14_1_0, k14_2_0, k14_3_0, k14_4_0, k14_5_0⟩) | (go_split_ands; with_reducible exact ⟨kc hv0 (by with_reducible assumption), kc hv0 (by with_reducible assumption), kc hv0 (by with_reducible assumption), kc hv0 (by with_reducible assumption), kc hv0 (by with_reducible assumption), kc hv0 (by with_reducible assumption)⟩) | (go_split_ands; with_reducible exact ⟨kc hv1 (by with_reducible assumption), kc hv1 (by with_reducible assumption), kc hv1 (by with_reducible assumption), kc hv1 (by with_reducible assumption), kc hv1 (by with_reducible assumption), kc hv1 (by with_reducible assumption)⟩) | (go_split_ands; with_reducible exact ⟨kc hv2 (by with_reducible assumption), kc hv2 (by with_reducible assumption), kc hv2 (by with_reducible assumption), kc hv2 (by with_reducible assumption), kc hv2 (by with_reducible assumption), kc hv2 (by with_reducible assumption)⟩) | (go_split_ands; with_reducible exact ⟨kal (by with_reducible assumption), kal (by with_reducible assumption), kal (by with_reducible assumption), kal (by with_reducible assumption), kal (by with_reducible assumption), kal (by with_reducible assumption)⟩) | (go_split_ands; with_reducible exact ⟨kald (by with_reducible assumption), kald (by with_reducible assumption), kald (by with_reducible assumption), kald (by with_reducible assumption), kald (by with_reducible assumption), kald (by with_reducible assumption)⟩) | (go_split_ands; with_reducible exact ⟨kre (by omega) (by with_reducible assumption), kre (by omega) (by with_reducible assumption), kre (by omega) (by with_reducible assumption), kre (by omega) (by with_reducible assumption), kre (by omega) (by with_reducible assumption), kre (by omega) (by with_reducible assumption)⟩) | (go_split_ands; with_reducible exact ⟨kst1 (by omega) (by with_reducible assumption), kst1 (by omega) (by with_reducible assumption), kst1 (by omega) (by with_reducible assumption), kst1 (by omega) (by with_reducible assumption), kst1 (by omega) (by with_reducible assumption), kst1 (by omega) (by with_reducible assumption)⟩)) (first | (go_at_call 27; ((with_reducible refine (tb (xs := xs) ?_ HN.out bn).mono ?_); (exact HA.out.mono (by (repeat' (first | (with_reducible exact Below.refl _ _) | (with_reducible assumption) | (with_reducible refine Below.alloc ?_ ?_ _) | (with_reducible refine Below.drew ?_) | (with_reducible refine below_drewN ?_ _) | (with_reducible refine Below.setCell ?_ ?_ _) | (with_reducible refine chain ?_ (by assumption) ?_) | omega | (simp; done) | (simp; omega))))); rintro ee v0 ⟨g0, rfl, hK0, hg0, hv0⟩; obtain ⟨hcv0, hfv0, _⟩ := bcell hv0; have hq0 := hv0.size; (try simp only [World.size_drew, World.size_alloc] at hq0); (try have ho0_0 : w14.heap.size < v0.heap.size := (by omega)); (try have ho0_1 : v1.heap.size < v0.heap.size := (by omega)); (try have ho0_2 : v2.heap.size < v0.heap.size := (by omega)))) | (go_at_call 27; ((with_reducible refine (tb (xs := ys) ?_ HM.out bm).mono ?_); (exact HB.out.mono (by (repeat' (first | (with_reducible exact Below.refl _ _) | (with_reducible assumption) | (with_reducible refine Below.alloc ?_ ?_ _) | (with_reducible refine Below.drew ?_) | (with_reducible refine below_drewN ?_ _) | (with_reducible refine Below.setCell ?_ ?_ _) | (with_reducible refine chain ?_ (by assumption) ?_) | omega | (simp; done) | (simp; omega))))); rintro ee v1 ⟨g1, rfl, hK1, hg1, hv1⟩; obtain ⟨hcv1, hfv1, _⟩ := bcell hv1; have hq1 := hv1.size; (try simp only [World.size_drew, World.size_alloc] at hq1); (try have ho1_0 : w14.heap.size < v1.heap.size := (by omega)); (try have ho1_1 : v0.heap.size < v1.heap.size := (by omega)); (try have ho1_2 : v2.heap.size < v1.heap.size := (by omega)))) | (go_at_call 33; ((with_reducible refine (HI.out _ _ _ ?_ ?_).mono ?_); (exact (by exact hK0.rd.mono (by (repeat' (first | (with_reducible exact Below.refl _ _) | (with_reducible assumption) | (with_reducible refine Below.alloc ?_ ?_ _) | (with_reducible refine Below.drew ?_) | (with_reducible refine below_drewN ?_ _) | (with_reducible refine Below.setCell ?_ ?_ _) | (with_reducible refine chain ?_ (by assumption) ?_) | omega | (simp; done) | (simp; omega)))))); (exact (by exact hK1.rd.mono (by (repeat' (first | (with_reducible exact Below.refl _ _) | (with_reducible assumption) | (with_reducible refine Below.alloc ?_ ?_ _) | (with_reducible refine Below.drew ?_) | (with_reducible refine below_drewN ?_ _) | (with_reducible refine Below.setCell ?_ ?_ _) | (with_reducible refine chain ?_ (by assumption) ?_) | omega | (simp; done) | (simp; omega)))))); rintro ee v2 ⟨A3, cp3, rfl, hO3, hv2⟩; obtain ⟨hcv2, hfv2, _⟩ := bcell hv2; have hq2 := hv2.size; (try simp only [World.size_drew, World.size_alloc] at hq2); (try have ho2_0 : w14.heap.size < v2.heap.size := (by omega)); (try have ho2_1 : v0.heap.size < v2.heap.size := (by omega)); (try have ho2_2 : v1.heap.size < v2.heap.size := (by omega)))))
          all_goals (go_wp2_with fail; go_meet)
          all_goals go_split_ands
          all_goals ((have hR3 := hO3.rd); (have hA3 := hO3.low); refine ⟨⟨_, A3, cp3, rfl, rfl, (by first | (go_simp; done) | (simp [*]; done)), (by exact Rd.b (by (repeat' (first | (with_reducible assumption) | (refine Rd.far ?_ (fun a ha => by have h9 := hA3 a ha; (try simp only [World.size_drew, World.size_alloc] at h9); dsimp only; omega) _) | (exact hR3.mono (by (repeat' (first | (with_reducible exact Below.refl _ _) | (with_reducible assumption) | (with_reducible refine Below.alloc ?_ ?_ _) | (with_reducible refine Below.drew ?_) | (with_reducible refine below_drewN ?_ _) | (with_reducible refine Below.setCell ?_ ?_ _) | (with_reducible refine chain ?_ (by assumption) ?_) | omega | (simp; done) | (simp; omega)))))))) (Nat.le_refl _))⟩, (by with_reducible assumption), (by with_reducible assumption), (by with_reducible assumption), (by with_reducible assumption), (by with_reducible assumption), (by with_reducible assumption), (by exact HW14.out.mono (by (repeat' (first | (with_reducible exact Below.refl _ _) | (with_reducible assumption) | (with_reducible refine Below.alloc ?_ ?_ _) | (with_reducible refine Below.drew ?_) | (with_reducible refine below_drewN ?_ _) | (with_reducible refine Below.setCell ?_ ?_ _) | (with_reducible refine chain ?_ (by assumption) ?_) | omega | (simp; done) | (simp; omega))))), (by exact HG14.out.mono (by (repeat' (first | (with_reducible exact Below.refl _ _) | (with_reducible assumption) | (with_reducible refine Below.alloc ?_ ?_ _) | (with_reducible refine Below.drew ?_) | (with_reducible refine below_drewN ?_ _) | (with_reducible refine Below.setCell ?_ ?_ _) | (with_reducible refine chain ?_ (by assumption) ?_) | omega | (simp; done) | (simp; omega))))), (by (try simp only [World.size_alloc, World.size_drew, World.size_setCell]); omega), (by (repeat' (first | (with_reducible exact Below.refl _ _) | (with_reducible assumption) | (with_reducible refine Below.alloc ?_ ?_ _) | (with_reducible refine Below.drew ?_) | (with_reducible refine below_drewN ?_ _) | (with_reducible refine Below.setCell ?_ ?_ _) | (with_reducible refine chain ?_ (by assumption) ?_) | omega | (simp; done) | (simp; omega))))⟩)
        case rest =>
          obtain ⟨w15, rfl⟩ : ∃ w15, w15 = wc := ⟨_, rfl⟩
          clear k14_0_0 k14_1_0 k14_2_0 k14_3_0 k14_4_0 k14_5_0 HW14 HG14
          obtain ⟨⟨bH, AH, cpH, rfl, rfl, k15_6_0, HRH⟩, k15_0_0, k15_1_0, k15_2_0, k15_3_0, k15_4_0, k15_5_0, HW15, HG15, hz15, hB15⟩ := hcut
          have bl15_0 : w.heap.size < w15.heap.size := World.block_lt_of_cell? _ _ k15_0_0
          have bl15_1 : w.heap.size + 1 < w15.heap.size := World.block_lt_of_cell? _ _ k15_1_0
          have bl15_2 : bW < w15.heap.size := World.block_lt_of_cell? _ _ k15_2_0
          have bl15_3 : w4.heap.size < w15.heap.size := World.block_lt_of_cell? _ _ k15_3_0
          have bl15_4 : w5.heap.size < w15.heap.size := World.block_lt_of_cell? _ _ k15_4_0
          have bl15_5 : w6.heap.size < w15.heap.size := World.block_lt_of_cell? _ _ k15_5_0
          have bl15_6 : bH < w15.heap.size := World.block_lt_of_cell? _ _ k15_6_0
          go_wp2_with (fail)
          refine (eqb (xs := zs) ?_ ?_ HZ.out hk).mono ?_
          · exact HRH.out.rd.mono (by (repeat' (first | (with_reducible exact Below.refl _ _) | (with_reducible assumption) | (with_reducible refine Below.alloc ?_ ?_ _) | (with_reducible refine Below.drew ?_) | (with_reducible refine below_drewN ?_ _) | (with_reducible refine Below.setCell ?_ ?_ _) | (with_reducible refine chain ?_ (by assumption) ?_) | omega | (simp; done) | (simp; omega))))
          · exact HW15.out.rd.mono (by (repeat' (first | (with_reducible exact Below.refl _ _) | (with_reducible assumption) | (with_reducible refine Below.alloc ?_ ?_ _) | (with_reducible refine Below.drew ?_) | (with_reducible refine below_drewN ?_ _) | (with_reducible refine Below.setCell ?_ ?_ _) | (with_reducible refine chain ?_ (by assumption) ?_) | omega | (simp; done) | (simp; omega))))
          rintro ee w16 ⟨rfl, hb16⟩
          have hL16 : Below w15.heap.size w15 w16 := by (repeat' (first | (with_reducible exact Below.refl _ _) | (with_reducible assumption) | (with_reducible refine Below.alloc ?_ ?_ _) | (with_reducible refine Below.drew ?_) | (with_reducible refine below_drewN ?_ _) | (with_reducible refine Below.setCell ?_ ?_ _) | (with_reducible refine chain ?_ (by assumption) ?_) | omega | (simp; done) | (simp; omega)))
          have hz16 := hb16.size
          (try simp only [World.size_alloc] at hz16)
          have hB16 : Below w.heap.size w w16 := chain hB15 hL16 hB15.size
          have k16_0_0 : w16.cell? ⟨w.heap.size, 0, none⟩ = some (.slice A n cp) := (hL16.cell (p := ⟨w.heap.size, 0, none⟩) (by show w.heap.size < w15.heap.size; omega)).trans k15_0_0
          have k16_1_0 : w16.cell? ⟨w.heap.size + 1, 0, none⟩ = some (.slice B m cp') := (hL16.cell (p := ⟨w.heap.size + 1, 0, none⟩) (by show w.heap.size + 1 < w15.heap.size; omega)).trans k15_1_0
          have k16_2_0 : w16.cell? ⟨bW, 0, none⟩ = some (.slice AW k cpW) := (hL16.cell (p := ⟨bW, 0, none⟩) (by show bW < w15.heap.size; omega)).trans k15_2_0
          have k16_3_0 : w16.cell? ⟨w4.heap.size, 0, none⟩ = some (.slice (some ⟨g4, 0, none⟩) n n) := (hL16.cell (p := ⟨w4.heap.size, 0, none⟩) (by show w4.heap.size < w15.heap.size; omega)).trans k15_3_0
          have k16_4_0 : w16.cell? ⟨w5.heap.size, 0, none⟩ = some (.slice (some ⟨g5, 0, none⟩) m m) := (hL16.cell (p := ⟨w5.heap.size, 0, none⟩) (by show w5.heap.size < w15.heap.size; omega)).trans k15_4_0
          have k16_5_0 : w16.cell? ⟨w6.heap.size, 0, none⟩ = some (.slice A6 k cp6) := (hL16.cell (p := ⟨w6.heap.size, 0, none⟩) (by show w6.heap.size < w15.heap.size; omega)).trans k15_5_0
          have k16_6_0 : w16.cell? ⟨bH, 0, none⟩ = some (.slice AH k cpH) := (hL16.cell (p := ⟨bH, 0, none⟩) (by show bH < w15.heap.size; omega)).trans k15_6_0
          have bl16_0 : w.heap.size < w16.heap.size := World.block_lt_of_cell? _ _ k16_0_0
          have bl16_1 : w.heap.size + 1 < w16.heap.size := World.block_lt_of_cell? _ _ k16_1_0
          have bl16_2 : bW < w16.heap.size := World.block_lt_of_cell? _ _ k16_2_0
          have bl16_3 : w4.heap.size < w16.heap.size := World.block_lt_of_cell? _ _ k16_3_0
          have bl16_4 : w5.heap.size < w16.heap.size := World.block_lt_of_cell? _ _ k16_4_0
          have bl16_5 : w6.heap.size < w16.heap.size := World.block_lt_of_cell? _ _ k16_5_0
          have bl16_6 : bH < w16.heap.size := World.block_lt_of_cell? _ _ k16_6_0
          have HW16 := hid (HW15.out.mono hL16)
          have HG16 := hid (HG15.out.mono hL16)
          clear hb16 hL16
          clear k15_0_0 k15_1_0 k15_2_0 k15_3_0 k15_4_0 k15_5_0 k15_6_0 HW15 HG15
          go_wp2_with (fail)
          refine (hdb ?_ hk (by decide) (by decide)).mono ?_
          · exact HG16.out.rd.mono (by (repeat' (first | (with_reducible exact Below.refl _ _) | (with_reducible assumption) | (with_reducible refine Below.alloc ?_ ?_ _) | (with_reducible refine Below.drew ?_) | (with_reducible refine below_drewN ?_ _) | (with_reducible refine Below.setCell ?_ ?_ _) | (with_reducible refine chain ?_ (by assumption) ?_) | omega | (simp; done) | (simp; omega))))
          rintro ee w17 ⟨rfl, hb17⟩
          have hL17 : Below w16.heap.size w16 w17 := by (repeat' (first | (with_reducible exact Below.refl _ _) | (with_reducible assumption) | (with_reducible refine Below.alloc ?_ ?_ _) | (with_reducible refine Below.drew ?_) | (with_reducible refine below_drewN ?_ _) | (with_reducible refine Below.setCell ?_ ?_ _) | (with_reducible refine chain ?_ (by assumption) ?_) | omega | (simp; done) | (simp; omega)))
          have hz17 := hb17.size
          (try simp only [World.size_alloc] at hz17)
          have hB17 : Below w.heap.size w w17 := chain hB16 hL17 hB16.size
          have k17_0_0 : w17.cell? ⟨w.heap.size, 0, none⟩ = some (.slice A n cp) := (hL17.cell (p := ⟨w.heap.size, 0, none⟩) (by show w.heap.size < w16.heap.size; omega)).trans k16_0_0
          have k17_1_0 : w17.cell? ⟨w.heap.size + 1, 0, none⟩ = some (.slice B m cp') := (hL17.cell (p := ⟨w.heap.size + 1, 0, none⟩) (by show w.heap.size + 1 < w16.heap.size; omega)).trans k16_1_0
          have k17_2_0 : w17.cell? ⟨bW, 0, none⟩ = some (.slice AW k cpW) := (hL17.cell (p := ⟨bW, 0, none⟩) (by show bW < w16.heap.size; omega)).trans k16_2_0
          have k17_3_0 : w17.cell? ⟨w4.heap.size, 0, none⟩ = some (.slice (some ⟨g4, 0, none⟩) n n) := (hL17.cell (p := ⟨w4.heap.size, 0, none⟩) (by show w4.heap.size < w16.heap.size; omega)).trans k16_3_0
          have k17_4_0 : w17.cell? ⟨w5.heap.size, 0, none⟩ = some (.slice (some ⟨g5, 0, none⟩) m m) := (hL17.cell (p := ⟨w5.heap.size, 0, none⟩) (by show w5.heap.size < w16.heap.size; omega)).trans k16_4_0
          have k17_5_0 : w17.cell? ⟨w6.heap.size, 0, none⟩ = some (.slice A6 k cp6) := (hL17.cell (p := ⟨w6.heap.size, 0, none⟩) (by show w6.heap.size < w16.heap.size; omega)).trans k16_5_0
          have k17_6_0 : w17.cell? ⟨bH, 0, none⟩ = some (.slice AH k cpH) := (hL17.cell (p := ⟨bH, 0, none⟩) (by show bH < w16.heap.size; omega)).trans k16_6_0
          have bl17_0 : w.heap.size < w17.heap.size := World.block_lt_of_cell? _ _ k17_0_0
          have bl17_1 : w.heap.size + 1 < w17.heap.size := World.block_lt_of_cell? _ _ k17_1_0
          have bl17_2 : bW < w17.heap.size := World.block_lt_of_cell? _ _ k17_2_0
          have bl17_3 : w4.heap.size < w17.heap.size := World.block_lt_of_cell? _ _ k17_3_0
          have bl17_4 : w5.heap.size < w17.heap.size := World.block_lt_of_cell? _ _ k17_4_0
          have bl17_5 : w6.heap.size < w17.heap.size := World.block_lt_of_cell? _ _ k17_5_0
          have bl17_6 : bH < w17.heap.size := World.block_lt_of_cell? _ _ k17_6_0
          have HW17 := hid (HW16.out.mono hL17)
          have HG17 := hid (HG16.out.mono hL17)
          clear hb17 hL17
          clear k16_0_0 k16_1_0 k16_2_0 k16_3_0 k16_4_0 k16_5_0 k16_6_0 HW16 HG16
          go_wp2_with (fail)
          go_ret
          exact ⟨rfl, hB17⟩

set_option maxRecDepth 100000 in
set_option maxHeartbeats 4000000 in
theorem bigMulBloch0 {A0 : Option Addr} {n0 cp0 : Nat} {A1 : Option Addr} {n1 cp1 : Nat} {w : World} (hb : 1048576 < (n0 : Int)) (hm : n0 ≤ maxLen) :
    Calls Try.prog 7 #[bv A0 n0 cp0, bv A1 n1 cp1] w fun ee w' => ee = .returned (.bool true) ∧ Below w.heap.size w w' := by
  have hu : n0 ≤ 9223372036854775807 := by unfold maxLen at hm; omega
  go_enter Try.func7, Try.ntmps7
  go_wp2_with (fail)
  refine (szb_f (n := n0) (by omega) (by omega) (by omega) hm).mono ?_
  rintro ee v ⟨rfl, hv⟩
  go_wp2_with (fail)
  go_ret
  refine ⟨rfl, ?_⟩
  (repeat' (first | (with_reducible exact Below.refl _ _) | (with_reducible assumption) | (with_reducible refine Below.alloc ?_ ?_ _) | (with_reducible refine Below.drew ?_) | (with_reducible refine below_drewN ?_ _) | (with_reducible refine Below.setCell ?_ ?_ _) | (with_reducible refine chain ?_ (by assumption) ?_) | omega | (simp; done) | (simp; omega)))

set_option maxRecDepth 100000 in
set_option maxHeartbeats 4000000 in
theorem bigMulBloch1 {A0 : Option Addr} {n0 cp0 : Nat} {A1 : Option Addr} {n1 cp1 : Nat} {w : World} (h0 : n0 ≤ 1048576) (h9 : 0 ≤ 1048576 - (n0 : Int)) (hb : 1048576 - (n0 : Int) < (n1 : Int)) (hm : n1 ≤ maxLen) :
    Calls Try.prog 7 #[bv A0 n0 cp0, bv A1 n1 cp1] w fun ee w' => ee = .returned (.bool true) ∧ Below w.heap.size w w' := by
  have hu : n1 ≤ 9223372036854775807 := by unfold maxLen at hm; omega
  go_enter Try.func7, Try.ntmps7
  go_wp2_with (fail)
  refine (szb_t (n := n0) (by omega) (by omega)).mono ?_
  rintro ee w1 ⟨rfl, hb1⟩
  obtain ⟨hc1, hf1, _⟩ := bcell hb1
  have hz1 := hb1.size
  (try simp at hz1)
  (try have hx10 : w.heap.size < w1.heap.size := (by omega))
  (try have hx11 : w.heap.size + 1 < w1.heap.size := (by omega))
  go_wp2_with (fail)
  refine (szb_f (n := n1) (by omega) (by omega) (by omega) hm).mono ?_
  rintro ee v ⟨rfl, hv⟩
  go_wp2_with (fail)
  go_ret
  refine ⟨rfl, ?_⟩
  (repeat' (first | (with_reducible exact Below.refl _ _) | (with_reducible assumption) | (with_reducible refine Below.alloc ?_ ?_ _) | (with_reducible refine Below.drew ?_) | (with_reducible refine below_drewN ?_ _) | (with_reducible refine Below.setCell ?_ ?_ _) | (with_reducible refine chain ?_ (by assumption) ?_) | omega | (simp; done) | (simp; omega)))


end Go.Proofs.Ytofclfgaekjonaa
