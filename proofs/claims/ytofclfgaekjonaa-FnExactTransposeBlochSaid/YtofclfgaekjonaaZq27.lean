/- Big -/
import Derived.Test.YtofclfgaekjonaaZq19
import Derived.Test.YtofclfgaekjonaaZq26
import Derived.Test.YtofclfgaekjonaaZq4
import Derived.Test.YtofclfgaekjonaaZq11
namespace Go.Proofs.Ytofclfgaekjonaa
open Go.RowKit RM
set_option linter.unusedVariables false
set_option linter.unusedSimpArgs false
attribute [local irreducible] World.setCell

set_option maxRecDepth 100000 in
set_option maxHeartbeats 4000000 in
theorem iv_i {g0 n : Nat} {xs : List D5} {w : World} (hA : Rd w (some ⟨g0, 0, none⟩) xs) (hn : xs.length = n) (hb : n ≤ 1048576) :
    Calls Try.prog 28 #[bv (some ⟨g0, 0, none⟩) n n] w fun ee w' => ee = .returned (.bool (okBl n xs)) ∧ Below w.heap.size w w' := by
  by_cases h9 : n = 9
  · subst h9
    exact iv_i9 hA hn (hA.ltA (by omega) _ rfl) (by decide) (by decide)
  · have hne : ¬ ((n : Int) = 9) := by omega
    have hne2 : ((n : Int) != 9) = true := by simpa using hne
    rw [okBl_n h9]
    clear hA hn
    go_enter Try.func28, Try.ntmps28
    go_wp2_with (fail)
    go_ret
    refine ⟨rfl, ?_⟩
    (repeat' (first | (with_reducible exact Below.refl _ _) | (with_reducible assumption) | (with_reducible refine Below.alloc ?_ ?_ _) | (with_reducible refine Below.drew ?_) | (with_reducible refine below_drewN ?_ _) | (with_reducible refine Below.setCell ?_ ?_ _) | (with_reducible refine chain ?_ (by assumption) ?_) | omega | (simp; done) | (simp; omega)))

set_option maxRecDepth 100000 in
set_option maxHeartbeats 4000000 in
theorem iv_s {g0 n : Nat} {xs : List D5} {w : World} (hA : Rd w (some ⟨g0, 0, none⟩) xs) (hn : xs.length = n) (hb : n ≤ 1048576) :
    Calls Try.prog 26 #[bv (some ⟨g0, 0, none⟩) n n] w fun ee w' => ee = .returned (.bool (okBl n xs)) ∧ Below w.heap.size w w' := by
  have HA := hid hA
  have HN := hid hn
  have hl : 0 < n → g0 < w.heap.size := fun h => hA.ltA (by omega) _ rfl
  have HL := hid hl
  clear hA hn hl
  go_enter Try.func26, Try.ntmps26
  go_wp2_with (fail)
  refine (lv_s (xs := xs) ?_ HN.out hb (fun h => by have := HL.out h; simp only [World.size_alloc]; omega)).mono ?_
  · exact HA.out.mono (by (repeat' (first | (with_reducible exact Below.refl _ _) | (with_reducible assumption) | (with_reducible refine Below.alloc ?_ ?_ _) | (with_reducible refine Below.drew ?_) | (with_reducible refine below_drewN ?_ _) | (with_reducible refine Below.setCell ?_ ?_ _) | (with_reducible refine chain ?_ (by assumption) ?_) | omega | (simp; done) | (simp; omega))))
  rintro ee w1 ⟨rfl, hb1⟩
  go_wp2_with (fail)
  go_ret
  refine ⟨rfl, ?_⟩
  (repeat' (first | (with_reducible exact Below.refl _ _) | (with_reducible assumption) | (with_reducible refine Below.alloc ?_ ?_ _) | (with_reducible refine Below.drew ?_) | (with_reducible refine below_drewN ?_ _) | (with_reducible refine Below.setCell ?_ ?_ _) | (with_reducible refine chain ?_ (by assumption) ?_) | omega | (simp; done) | (simp; omega)))

set_option maxRecDepth 100000 in
set_option maxHeartbeats 4000000 in
theorem lwIsValidBloch {A : Option Addr} {n cp : Nat} {xs : List D5} {t : Bool} {w : World} (hS : ∀ (g : Nat) (w : World), Rd w (some ⟨g, 0, none⟩) xs → Calls Try.prog 26 #[bv (some ⟨g, 0, none⟩) n n] w fun ee w' => ee = .returned (.bool t) ∧ Below w.heap.size w w') (hI : ∀ (g : Nat) (w : World), Rd w (some ⟨g, 0, none⟩) xs → Calls Try.prog 28 #[bv (some ⟨g, 0, none⟩) n n] w fun ee w' => ee = .returned (.bool t) ∧ Below w.heap.size w w') (hA : Rd w A xs) (hn : xs.length = n) (hb : n ≤ 1048576) :
    Calls Try.prog 5 #[bv A n cp] w fun ee w' => ee = .returned (.bool true) ∧ Below w.heap.size w w' := by
  have HA := hid hA
  have HN := hid hn
  have HS := hid hS
  have HI := hid hI
  have s0 : ¬ (1048576 - (n : Int) < 0) := by omega
  have s1 : (n : Int) ≤ 1048576 := by omega
  have s2 : 0 ≤ 1048576 - (n : Int) := by omega
  clear hA hn hS hI
  go_enter Try.func5, Try.ntmps5
  go_wp2_with (fail)
  refine (szb_t s1 (by decide)).mono ?_
  rintro ee w1 ⟨rfl, hb1⟩
  have hL1 : Below w.heap.size w w1 := by (repeat' (first | (with_reducible exact Below.refl _ _) | (with_reducible assumption) | (with_reducible refine Below.alloc ?_ ?_ _) | (with_reducible refine Below.drew ?_) | (with_reducible refine below_drewN ?_ _) | (with_reducible refine Below.setCell ?_ ?_ _) | (with_reducible refine chain ?_ (by assumption) ?_) | omega | (simp; done) | (simp; omega)))
  have hz1 := hb1.size
  (try simp only [World.size_alloc] at hz1)
  have hB1 : Below w.heap.size w w1 := hL1
  have k1_0_0 : w1.cell? ⟨w.heap.size, 0, none⟩ = some (.slice A n cp) := (hb1.cell (p := ⟨w.heap.size, 0, none⟩) (by show w.heap.size < _; (try simp only [World.size_alloc]); omega)).trans (by first | rfl | (simp; done) | (simp [*]; done))
  have bl1_0 : w.heap.size < w1.heap.size := World.block_lt_of_cell? _ _ k1_0_0
  clear hb1 hL1
  go_wp2_with (fail)
  refine (tb (xs := xs) ?_ HN.out hb).mono ?_
  · exact HA.out.mono (by (repeat' (first | (with_reducible exact Below.refl _ _) | (with_reducible assumption) | (with_reducible refine Below.alloc ?_ ?_ _) | (with_reducible refine Below.drew ?_) | (with_reducible refine below_drewN ?_ _) | (with_reducible refine Below.setCell ?_ ?_ _) | (with_reducible refine chain ?_ (by assumption) ?_) | omega | (simp; done) | (simp; omega))))
  rintro ee w2 ⟨g2, rfl, hK2, hg2, hb2⟩
  have hL2 : Below w1.heap.size w1 w2 := by (repeat' (first | (with_reducible exact Below.refl _ _) | (with_reducible assumption) | (with_reducible refine Below.alloc ?_ ?_ _) | (with_reducible refine Below.drew ?_) | (with_reducible refine below_drewN ?_ _) | (with_reducible refine Below.setCell ?_ ?_ _) | (with_reducible refine chain ?_ (by assumption) ?_) | omega | (simp; done) | (simp; omega)))
  have hz2 := hb2.size
  (try simp only [World.size_alloc] at hz2)
  have hB2 : Below w.heap.size w w2 := chain hB1 hL2 hB1.size
  have k2_0_0 : w2.cell? ⟨w.heap.size, 0, none⟩ = some (.slice A n cp) := (hL2.cell (p := ⟨w.heap.size, 0, none⟩) (by show w.heap.size < w1.heap.size; omega)).trans k1_0_0
  have bl2_0 : w.heap.size < w2.heap.size := World.block_lt_of_cell? _ _ k2_0_0
  clear hb2 hL2
  clear k1_0_0
  have HK2 := hid hK2
  clear hK2
  go_wp2_with (fail)
  refine (HS.out _ _ ?_).mono ?_
  · exact HK2.out.rd
  rintro ee w3 ⟨rfl, hb3⟩
  have hL3 : Below w2.heap.size w2 w3 := by (repeat' (first | (with_reducible exact Below.refl _ _) | (with_reducible assumption) | (with_reducible refine Below.alloc ?_ ?_ _) | (with_reducible refine Below.drew ?_) | (with_reducible refine below_drewN ?_ _) | (with_reducible refine Below.setCell ?_ ?_ _) | (with_reducible refine chain ?_ (by assumption) ?_) | omega | (simp; done) | (simp; omega)))
  have hz3 := hb3.size
  (try simp only [World.size_alloc] at hz3)
  have hB3 : Below w.heap.size w w3 := chain hB2 hL3 hB2.size
  have k3_0_0 : w3.cell? ⟨w.heap.size, 0, none⟩ = some (.slice A n cp) := (hL3.cell (p := ⟨w.heap.size, 0, none⟩) (by show w.heap.size < w2.heap.size; omega)).trans k2_0_0
  have bl3_0 : w.heap.size < w3.heap.size := World.block_lt_of_cell? _ _ k3_0_0
  clear hb3 hL3
  clear k2_0_0
  clear HK2
  go_wp2_with (fail)
  refine (tb (xs := xs) ?_ HN.out hb).mono ?_
  · exact HA.out.mono (by (repeat' (first | (with_reducible exact Below.refl _ _) | (with_reducible assumption) | (with_reducible refine Below.alloc ?_ ?_ _) | (with_reducible refine Below.drew ?_) | (with_reducible refine below_drewN ?_ _) | (with_reducible refine Below.setCell ?_ ?_ _) | (with_reducible refine chain ?_ (by assumption) ?_) | omega | (simp; done) | (simp; omega))))
  rintro ee w4 ⟨g4, rfl, hK4, hg4, hb4⟩
  have hL4 : Below w3.heap.size w3 w4 := by (repeat' (first | (with_reducible exact Below.refl _ _) | (with_reducible assumption) | (with_reducible refine Below.alloc ?_ ?_ _) | (with_reducible refine Below.drew ?_) | (with_reducible refine below_drewN ?_ _) | (with_reducible refine Below.setCell ?_ ?_ _) | (with_reducible refine chain ?_ (by assumption) ?_) | omega | (simp; done) | (simp; omega)))
  have hz4 := hb4.size
  (try simp only [World.size_alloc] at hz4)
  have hB4 : Below w.heap.size w w4 := chain hB3 hL4 hB3.size
  have k4_0_0 : w4.cell? ⟨w.heap.size, 0, none⟩ = some (.slice A n cp) := (hL4.cell (p := ⟨w.heap.size, 0, none⟩) (by show w.heap.size < w3.heap.size; omega)).trans k3_0_0
  have bl4_0 : w.heap.size < w4.heap.size := World.block_lt_of_cell? _ _ k4_0_0
  clear hb4 hL4
  clear k3_0_0
  have HX4 := hid hK4
  clear hK4
  go_wp2_with (fail)
  refine (HI.out _ _ ?_).mono ?_
  · exact HX4.out.rd.mono (by (repeat' (first | (with_reducible exact Below.refl _ _) | (with_reducible assumption) | (with_reducible refine Below.alloc ?_ ?_ _) | (with_reducible refine Below.drew ?_) | (with_reducible refine below_drewN ?_ _) | (with_reducible refine Below.setCell ?_ ?_ _) | (with_reducible refine chain ?_ (by assumption) ?_) | omega | (simp; done) | (simp; omega))))
  rintro ee w5 ⟨rfl, hb5⟩
  have hL5 : Below w4.heap.size w4 w5 := by (repeat' (first | (with_reducible exact Below.refl _ _) | (with_reducible assumption) | (with_reducible refine Below.alloc ?_ ?_ _) | (with_reducible refine Below.drew ?_) | (with_reducible refine below_drewN ?_ _) | (with_reducible refine Below.setCell ?_ ?_ _) | (with_reducible refine chain ?_ (by assumption) ?_) | omega | (simp; done) | (simp; omega)))
  have hz5 := hb5.size
  (try simp only [World.size_alloc] at hz5)
  have hB5 : Below w.heap.size w w5 := chain hB4 hL5 hB4.size
  have k5_0_0 : w5.cell? ⟨w.heap.size, 0, none⟩ = some (.slice A n cp) := (hL5.cell (p := ⟨w.heap.size, 0, none⟩) (by show w.heap.size < w4.heap.size; omega)).trans k4_0_0
  have k5_1_0 : w5.cell? ⟨w4.heap.size, 0, none⟩ = some (.slice (some ⟨g4, 0, none⟩) n n) := (hb5.cell (p := ⟨w4.heap.size, 0, none⟩) (by show w4.heap.size < _; (try simp only [World.size_alloc]); omega)).trans (by first | rfl | (simp; done) | (simp [*]; done))
  have bl5_0 : w.heap.size < w5.heap.size := World.block_lt_of_cell? _ _ k5_0_0
  have bl5_1 : w4.heap.size < w5.heap.size := World.block_lt_of_cell? _ _ k5_1_0
  have HX5 := hid (HX4.out.mono hL5)
  clear hb5 hL5
  clear k4_0_0 HX4
  have hr_X := HX5.out.lt
  have HY := hid HX5.out.rd
  go_wp2_with (fail)
  have yk5_0_0 : w5.drew.cell? ⟨w.heap.size, 0, none⟩ = some (.slice A n cp) := k5_0_0
  have yk5_1_0 : w5.drew.cell? ⟨w4.heap.size, 0, none⟩ = some (.slice (some ⟨g4, 0, none⟩) n n) := k5_1_0
  go_region_held3 (fun w' => w'.cell? ⟨w.heap.size, 0, none⟩ = some (.slice A n cp) ∧ w'.cell? ⟨w4.heap.size, 0, none⟩ = some (.slice (some ⟨g4, 0, none⟩) n n)) (first | (with_reducible exact ⟨yk5_0_0, yk5_1_0⟩) | (with_reducible exact ⟨k5_0_0, k5_1_0⟩) | (go_split_ands; with_reducible exact ⟨kc hb7 (by with_reducible assumption), kc hb7 (by with_reducible assumption)⟩) | (go_split_ands; with_reducible exact ⟨kc hb8 (by with_reducible assumption), kc hb8 (by with_reducible assumption)⟩)) (first | (go_at_call 27; ((refine (tb (xs := xs) ?_ HN.out hb).mono ?_); (exact HA.out.mono (by (repeat' (first | (with_reducible exact Below.refl _ _) | (with_reducible assumption) | (with_reducible refine Below.alloc ?_ ?_ _) | (with_reducible refine Below.drew ?_) | (with_reducible refine below_drewN ?_ _) | (with_reducible refine Below.setCell ?_ ?_ _) | (with_reducible refine chain ?_ (by assumption) ?_) | omega | (simp; done) | (simp; omega))))); rintro ee w7 ⟨g7, rfl, hB7, hg7, hb7⟩; have HB7 := hid hB7; clear hB7; have hq7 := hb7.size; (try simp only [World.size_drew, World.size_alloc] at hq7))) | (go_at_call 29; ((refine (eqb (xs := xs) ?_ ?_ HN.out hb).mono ?_); (exact HY.out.mono (by (repeat' (first | (with_reducible exact Below.refl _ _) | (with_reducible assumption) | (with_reducible refine Below.alloc ?_ ?_ _) | (with_reducible refine Below.drew ?_) | (with_reducible refine below_drewN ?_ _) | (with_reducible refine Below.setCell ?_ ?_ _) | (with_reducible refine chain ?_ (by assumption) ?_) | omega | (simp; done) | (simp; omega))))); (exact HB7.out.rd); rintro ee w8 ⟨rfl, hb8⟩; have hq8 := hb8.size; (try simp only [World.size_drew, World.size_alloc] at hq8))))
  have hBz := hB5.size
  all_goals (go_wp2_with (fail); go_ret; refine ⟨rfl, ?_⟩)
  all_goals (repeat' (first | (with_reducible exact Below.refl _ _) | (with_reducible assumption) | (with_reducible refine Below.alloc ?_ ?_ _) | (with_reducible refine Below.drew ?_) | (with_reducible refine below_drewN ?_ _) | (with_reducible refine Below.setCell ?_ ?_ _) | (with_reducible refine chain ?_ (by assumption) ?_) | omega | (simp; done) | (simp; omega)))

set_option maxRecDepth 100000 in
set_option maxHeartbeats 4000000 in
theorem bigIsValidBloch0 {A0 : Option Addr} {n0 cp0 : Nat} {w : World} (hb : 1048576 < (n0 : Int)) (hm : n0 ≤ maxLen) :
    Calls Try.prog 5 #[bv A0 n0 cp0] w fun ee w' => ee = .returned (.bool true) ∧ Below w.heap.size w w' := by
  have hu : n0 ≤ 9223372036854775807 := by unfold maxLen at hm; omega
  go_enter Try.func5, Try.ntmps5
  go_wp2_with (fail)
  refine (szb_f (n := n0) (by omega) (by omega) (by omega) hm).mono ?_
  rintro ee v ⟨rfl, hv⟩
  go_wp2_with (fail)
  go_ret
  refine ⟨rfl, ?_⟩
  (repeat' (first | (with_reducible exact Below.refl _ _) | (with_reducible assumption) | (with_reducible refine Below.alloc ?_ ?_ _) | (with_reducible refine Below.drew ?_) | (with_reducible refine below_drewN ?_ _) | (with_reducible refine Below.setCell ?_ ?_ _) | (with_reducible refine chain ?_ (by assumption) ?_) | omega | (simp; done) | (simp; omega)))

theorem fnExactIsValidBloch_walk {A : Option Addr} {n cp : Nat} {xs : List D5} {w : World} (hA : Rd w A xs) (hn : xs.length = n) (hm : n ≤ maxLen) :
    Calls Try.prog 5 #[bv A n cp] w fun ee w' => ee = .returned (.bool true) ∧ Below w.heap.size w w' := by
  by_cases hb : n ≤ 1048576
  · exact lwIsValidBloch (t := okBl n xs) (fun g w k => iv_s k hn hb) (fun g w k => iv_i k hn hb) hA hn hb
  · exact bigIsValidBloch0 (by omega) hm


end Go.Proofs.Ytofclfgaekjonaa
