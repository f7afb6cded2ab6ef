/- The walk of the law on LeastExp. -/
import Derived.Test.YtofclfgaekjonaaLe
import Derived.Test.YtofclfgaekjonaaHeldB
namespace Go.Proofs.Ytofclfgaekjonaa
open Go.RowKit RM
set_option linter.unusedVariables false
set_option linter.unusedSimpArgs false
attribute [local irreducible] World.setCell

set_option maxRecDepth 100000 in
set_option maxHeartbeats 4000000 in
theorem lwLeastExp {r c : Int} {A : Option Addr} {n cp : Nat} {xs : List D5} {k : Int} {ok : Bool} {w : World} (hS : ∀ (g : Nat) (w : World), Rd w (some ⟨g, 0, none⟩) xs → Calls Try.prog 16 #[mv r c (some ⟨g, 0, none⟩) n n] w fun ee w' => ee = .returned (.tuple #[.int .i64 k, .bool ok]) ∧ Below w.heap.size w w') (hI : ∀ (g : Nat) (w : World), Rd w (some ⟨g, 0, none⟩) xs → Calls Try.prog 18 #[mv r c (some ⟨g, 0, none⟩) n n] w fun ee w' => ee = .returned (.tuple #[.int .i64 k, .bool ok]) ∧ Below w.heap.size w w') (hA : Rd w A xs) (hn : xs.length = n) (hb : n ≤ 1048576) :
    Calls Try.prog 3 #[mv r c A n cp] w fun ee w' => ee = .returned (.bool true) ∧ Below w.heap.size w w' := by
  have HA := hid hA
  have HN := hid hn
  have HS := hid hS
  have HI := hid hI
  have s0 : ¬ (1048576 - (n : Int) < 0) := by omega
  have s1 : (n : Int) ≤ 1048576 := by omega
  have s2 : 0 ≤ 1048576 - (n : Int) := by omega
  clear hA hn hS hI
  go_enter Try.func3, Try.ntmps3
  go_wp2_with (fail)
  refine (szm_t s1 (by decide)).mono ?_
  rintro ee w1 ⟨rfl, hb1⟩
  have hL1 : Below w.heap.size w w1 := by (repeat' (first | (with_reducible exact Below.refl _ _) | (with_reducible assumption) | (with_reducible refine Below.alloc ?_ ?_ _) | (with_reducible refine Below.drew ?_) | (with_reducible refine below_drewN ?_ _) | (with_reducible refine Below.setCell ?_ ?_ _) | (with_reducible refine chain ?_ (by assumption) ?_) | omega | (simp; done) | (simp; omega)))
  have hz1 := hb1.size
  (try simp only [World.size_alloc] at hz1)
  have hB1 : Below w.heap.size w w1 := hL1
  have k1_0_0 : w1.cell? ⟨w.heap.size, 0, none⟩ = some (.int .i64 r) := (hb1.cell (p := ⟨w.heap.size, 0, none⟩) (by show w.heap.size < _; (try simp only [World.size_alloc]); omega)).trans (by first | rfl | (simp; done) | (simp [*]; done))
  have k1_0_1 : w1.cell? ⟨w.heap.size, 1, none⟩ = some (.int .i64 c) := (hb1.cell (p := ⟨w.heap.size, 1, none⟩) (by show w.heap.size < _; (try simp only [World.size_alloc]); omega)).trans (by first | rfl | (simp; done) | (simp [*]; done))
  have k1_0_2 : w1.cell? ⟨w.heap.size, 2, none⟩ = some (.slice A n cp) := (hb1.cell (p := ⟨w.heap.size, 2, none⟩) (by show w.heap.size < _; (try simp only [World.size_alloc]); omega)).trans (by first | rfl | (simp; done) | (simp [*]; done))
  clear hb1 hL1
  go_wp2_with (fail)
  refine (tm (xs := xs) ?_ HN.out hb).mono ?_
  · exact HA.out.mono (by (repeat' (first | (with_reducible exact Below.refl _ _) | (with_reducible assumption) | (with_reducible refine Below.alloc ?_ ?_ _) | (with_reducible refine Below.drew ?_) | (with_reducible refine below_drewN ?_ _) | (with_reducible refine Below.setCell ?_ ?_ _) | (with_reducible refine chain ?_ (by assumption) ?_) | omega | (simp; done) | (simp; omega))))
  rintro ee w2 ⟨g2, rfl, hK2, hg2, hb2⟩
  have hL2 : Below w1.heap.size w1 w2 := by (repeat' (first | (with_reducible exact Below.refl _ _) | (with_reducible assumption) | (with_reducible refine Below.alloc ?_ ?_ _) | (with_reducible refine Below.drew ?_) | (with_reducible refine below_drewN ?_ _) | (with_reducible refine Below.setCell ?_ ?_ _) | (with_reducible refine chain ?_ (by assumption) ?_) | omega | (simp; done) | (simp; omega)))
  have hz2 := hb2.size
  (try simp only [World.size_alloc] at hz2)
  have hB2 : Below w.heap.size w w2 := chain hB1 hL2 hB1.size
  have k2_0_0 : w2.cell? ⟨w.heap.size, 0, none⟩ = some (.int .i64 r) := (hL2.cell (p := ⟨w.heap.size, 0, none⟩) (by show w.heap.size < w1.heap.size; omega)).trans k1_0_0
  have k2_0_1 : w2.cell? ⟨w.heap.size, 1, none⟩ = some (.int .i64 c) := (hL2.cell (p := ⟨w.heap.size, 1, none⟩) (by show w.heap.size < w1.heap.size; omega)).trans k1_0_1
  have k2_0_2 : w2.cell? ⟨w.heap.size, 2, none⟩ = some (.slice A n cp) := (hL2.cell (p := ⟨w.heap.size, 2, none⟩) (by show w.heap.size < w1.heap.size; omega)).trans k1_0_2
  clear hb2 hL2
  clear k1_0_0 k1_0_1 k1_0_2
  have HK2 := hid hK2
  clear hK2
  go_wp2_with (fail)
  refine (HS.out _ _ ?_).mono ?_
  · exact HK2.out.rd
  rintro ee w3 ⟨rfl, hb3⟩
  have hL3 : Below w2.heap.size w2 w3 := by (repeat' (first | (with_reducible exact Below.refl _ _) | (with_reducible assumption) | (with_reducible refine Below.alloc ?_ ?_ _) | (with_reducible refine Below.drew ?_) | (with_reducible refine below_drewN ?_ _) | (with_reducible refine Below.setCell ?_ ?_ _) | (with_reducible refine chain ?_ (by assumption) ?_) | omega | (simp; done) | (simp; omega)))
  have hz3 := hb3.size
  (try simp only [World.size_alloc] at hz3)
  have hB3 : Below w.heap.size w w3 := chain hB2 hL3 hB2.size
  have k3_0_0 : w3.cell? ⟨w.heap.size, 0, none⟩ = some (.int .i64 r) := (hL3.cell (p := ⟨w.heap.size, 0, none⟩) (by show w.heap.size < w2.heap.size; omega)).trans k2_0_0
  have k3_0_1 : w3.cell? ⟨w.heap.size, 1, none⟩ = some (.int .i64 c) := (hL3.cell (p := ⟨w.heap.size, 1, none⟩) (by show w.heap.size < w2.heap.size; omega)).trans k2_0_1
  have k3_0_2 : w3.cell? ⟨w.heap.size, 2, none⟩ = some (.slice A n cp) := (hL3.cell (p := ⟨w.heap.size, 2, none⟩) (by show w.heap.size < w2.heap.size; omega)).trans k2_0_2
  clear hb3 hL3
  clear k2_0_0 k2_0_1 k2_0_2
  clear HK2
  go_wp2_with (fail)
  refine (tm (xs := xs) ?_ HN.out hb).mono ?_
  · exact HA.out.mono (by (repeat' (first | (with_reducible exact Below.refl _ _) | (with_reducible assumption) | (with_reducible refine Below.alloc ?_ ?_ _) | (with_reducible refine Below.drew ?_) | (with_reducible refine below_drewN ?_ _) | (with_reducible refine Below.setCell ?_ ?_ _) | (with_reducible refine chain ?_ (by assumption) ?_) | omega | (simp; done) | (simp; omega))))
  rintro ee w4 ⟨g4, rfl, hK4, hg4, hb4⟩
  have hL4 : Below w3.heap.size w3 w4 := by (repeat' (first | (with_reducible exact Below.refl _ _) | (with_reducible assumption) | (with_reducible refine Below.alloc ?_ ?_ _) | (with_reducible refine Below.drew ?_) | (with_reducible refine below_drewN ?_ _) | (with_reducible refine Below.setCell ?_ ?_ _) | (with_reducible refine chain ?_ (by assumption) ?_) | omega | (simp; done) | (simp; omega)))
  have hz4 := hb4.size
  (try simp only [World.size_alloc] at hz4)
  have hB4 : Below w.heap.size w w4 := chain hB3 hL4 hB3.size
  have k4_0_0 : w4.cell? ⟨w.heap.size, 0, none⟩ = some (.int .i64 r) := (hL4.cell (p := ⟨w.heap.size, 0, none⟩) (by show w.heap.size < w3.heap.size; omega)).trans k3_0_0
  have k4_0_1 : w4.cell? ⟨w.heap.size, 1, none⟩ = some (.int .i64 c) := (hL4.cell (p := ⟨w.heap.size, 1, none⟩) (by show w.heap.size < w3.heap.size; omega)).trans k3_0_1
  have k4_0_2 : w4.cell? ⟨w.heap.size, 2, none⟩ = some (.slice A n cp) := (hL4.cell (p := ⟨w.heap.size, 2, none⟩) (by show w.heap.size < w3.heap.size; omega)).trans k3_0_2
  clear hb4 hL4
  clear k3_0_0 k3_0_1 k3_0_2
  have HX4 := hid hK4
  clear hK4
  go_wp2_with (fail)
  refine (HI.out _ _ ?_).mono ?_
  · exact HX4.out.rd.mono (by (repeat' (first | (with_reducible exact Below.refl _ _) | (with_reducible assumption) | (with_reducible refine Below.alloc ?_ ?_ _) | (with_reducible refine Below.drew ?_) | (with_reducible refine below_drewN ?_ _) | (with_reducible refine Below.setCell ?_ ?_ _) | (with_reducible refine chain ?_ (by assumption) ?_) | omega | (simp; done) | (simp; omega))))
  rintro ee w5 ⟨rfl, hb5⟩
  have hL5 : Below w4.heap.size w4 w5 := by (repeat' (first | (with_reducible exact Below.refl _ _) | (with_reducible assumption) | (with_reducible refine Below.alloc ?_ ?_ _) | (with_reducible refine Below.drew ?_) | (with_reducible refine below_drewN ?_ _) | (with_reducible refine Below.setCell ?_ ?_ _) | (with_reducible refine chain ?_ (by assumption) ?_) | omega | (simp; done) | (simp; omega)))
  have hz5 := hb5.size
  (try simp only [World.size_alloc] at hz5)
  have hB5 : Below w.heap.size w w5 := chain hB4 hL5 hB4.size
  have k5_0_0 : w5.cell? ⟨w.heap.size, 0, none⟩ = some (.int .i64 r) := (hL5.cell (p := ⟨w.heap.size, 0, none⟩) (by show w.heap.size < w4.heap.size; omega)).trans k4_0_0
  have k5_0_1 : w5.cell? ⟨w.heap.size, 1, none⟩ = some (.int .i64 c) := (hL5.cell (p := ⟨w.heap.size, 1, none⟩) (by show w.heap.size < w4.heap.size; omega)).trans k4_0_1
  have k5_0_2 : w5.cell? ⟨w.heap.size, 2, none⟩ = some (.slice A n cp) := (hL5.cell (p := ⟨w.heap.size, 2, none⟩) (by show w.heap.size < w4.heap.size; omega)).trans k4_0_2
  have k5_1_0 : w5.cell? ⟨w4.heap.size, 0, none⟩ = some (.int .i64 r) := (hb5.cell (p := ⟨w4.heap.size, 0, none⟩) (by show w4.heap.size < _; (try simp only [World.size_alloc]); omega)).trans (by first | rfl | (simp; done) | (simp [*]; done))
  have k5_1_1 : w5.cell? ⟨w4.heap.size, 1, none⟩ = some (.int .i64 c) := (hb5.cell (p := ⟨w4.heap.size, 1, none⟩) (by show w4.heap.size < _; (try simp only [World.size_alloc]); omega)).trans (by first | rfl | (simp; done) | (simp [*]; done))
  have k5_1_2 : w5.cell? ⟨w4.heap.size, 2, none⟩ = some (.slice (some ⟨g4, 0, none⟩) n n) := (hb5.cell (p := ⟨w4.heap.size, 2, none⟩) (by show w4.heap.size < _; (try simp only [World.size_alloc]); omega)).trans (by first | rfl | (simp; done) | (simp [*]; done))
  have HX5 := hid (HX4.out.mono hL5)
  clear hb5 hL5
  clear k4_0_0 k4_0_1 k4_0_2 HX4
  have hr_X := HX5.out.lt
  have HY := hid HX5.out.rd
  go_wp2_with (fail)
  have yk5_0_0 : w5.drew.cell? ⟨w.heap.size, 0, none⟩ = some (.int .i64 r) := k5_0_0
  have yk5_0_1 : w5.drew.cell? ⟨w.heap.size, 1, none⟩ = some (.int .i64 c) := k5_0_1
  have yk5_0_2 : w5.drew.cell? ⟨w.heap.size, 2, none⟩ = some (.slice A n cp) := k5_0_2
  have yk5_1_0 : w5.drew.cell? ⟨w4.heap.size, 0, none⟩ = some (.int .i64 r) := k5_1_0
  have yk5_1_1 : w5.drew.cell? ⟨w4.heap.size, 1, none⟩ = some (.int .i64 c) := k5_1_1
  have yk5_1_2 : w5.drew.cell? ⟨w4.heap.size, 2, none⟩ = some (.slice (some ⟨g4, 0, none⟩) n n) := k5_1_2
  go_region_held3 (fun w' => w'.cell? ⟨w.heap.size, 0, none⟩ = some (.int .i64 r) ∧ w'.cell? ⟨w.heap.size, 1, none⟩ = some (.int .i64 c) ∧ w'.cell? ⟨w.heap.size, 2, none⟩ = some (.slice A n cp) ∧ w'.cell? ⟨w4.heap.size, 0, none⟩ = some (.int .i64 r) ∧ w'.cell? ⟨w4.heap.size, 1, none⟩ = some (.int .i64 c) ∧ w'.cell? ⟨w4.heap.size, 2, none⟩ = some (.slice (some ⟨g4, 0, none⟩) n n)) (first | (with_reducible exact ⟨yk5_0_0, yk5_0_1, yk5_0_2, yk5_1_0, yk5_1_1, yk5_1_2⟩) | (with_reducible exact ⟨k5_0_0, k5_0_1, k5_0_2, k5_1_0, k5_1_1, k5_1_2⟩) | (go_split_ands; with_reducible exact ⟨kc hb7 (by with_reducible assumption), kc hb7 (by with_reducible assumption), kc hb7 (by with_reducible assumption), kc hb7 (by with_reducible assumption), kc hb7 (by with_reducible assumption), kc hb7 (by with_reducible assumption)⟩) | (go_split_ands; with_reducible exact ⟨kc hb8 (by with_reducible assumption), kc hb8 (by with_reducible assumption), kc hb8 (by with_reducible assumption), kc hb8 (by with_reducible assumption), kc hb8 (by with_reducible assumption), kc hb8 (by with_reducible assumption)⟩)) (first | (go_at_call 17; ((refine (tm (xs := xs) ?_ HN.out hb).mono ?_); (exact HA.out.mono (by (repeat' (first | (with_reducible exact Below.refl _ _) | (with_reducible assumption) | (with_reducible refine Below.alloc ?_ ?_ _) | (with_reducible refine Below.drew ?_) | (with_reducible refine below_drewN ?_ _) | (with_reducible refine Below.setCell ?_ ?_ _) | (with_reducible refine chain ?_ (by assumption) ?_) | omega | (simp; done) | (simp; omega))))); rintro ee w7 ⟨g7, rfl, hB7, hg7, hb7⟩; have HB7 := hid hB7; clear hB7; have hq7 := hb7.size; (try simp only [World.size_drew, World.size_alloc] at hq7))) | (go_at_call 19; ((refine (eqm (xs := xs) ?_ ?_ HN.out hb).mono ?_); (exact HY.out.mono (by (repeat' (first | (with_reducible exact Below.refl _ _) | (with_reducible assumption) | (with_reducible refine Below.alloc ?_ ?_ _) | (with_reducible refine Below.drew ?_) | (with_reducible refine below_drewN ?_ _) | (with_reducible refine Below.setCell ?_ ?_ _) | (with_reducible refine chain ?_ (by assumption) ?_) | omega | (simp; done) | (simp; omega))))); (exact HB7.out.rd); rintro ee w8 ⟨rfl, hb8⟩; have hq8 := hb8.size; (try simp only [World.size_drew, World.size_alloc] at hq8))))
  have hBz := hB5.size
  all_goals (go_wp2_with (fail); go_ret; refine ⟨rfl, ?_⟩)
  all_goals (repeat' (first | (with_reducible exact Below.refl _ _) | (with_reducible assumption) | (with_reducible refine Below.alloc ?_ ?_ _) | (with_reducible refine Below.drew ?_) | (with_reducible refine below_drewN ?_ _) | (with_reducible refine Below.setCell ?_ ?_ _) | (with_reducible refine chain ?_ (by assumption) ?_) | omega | (simp; done) | (simp; omega)))

set_option maxRecDepth 100000 in
set_option maxHeartbeats 4000000 in
theorem bigLeastExp0 {r0 c0 : Int} {A0 : Option Addr} {n0 cp0 : Nat} {w : World} (hb : 1048576 < (n0 : Int)) (hm : n0 ≤ maxLen) :
    Calls Try.prog 3 #[mv r0 c0 A0 n0 cp0] w fun ee w' => ee = .returned (.bool true) ∧ Below w.heap.size w w' := by
  have hu : n0 ≤ 9223372036854775807 := by unfold maxLen at hm; omega
  go_enter Try.func3, Try.ntmps3
  go_wp2_with (fail)
  refine (szm_f (n := n0) (by omega) (by omega) (by omega) hm).mono ?_
  rintro ee v ⟨rfl, hv⟩
  go_wp2_with (fail)
  go_ret
  refine ⟨rfl, ?_⟩
  (repeat' (first | (with_reducible exact Below.refl _ _) | (with_reducible assumption) | (with_reducible refine Below.alloc ?_ ?_ _) | (with_reducible refine Below.drew ?_) | (with_reducible refine below_drewN ?_ _) | (with_reducible refine Below.setCell ?_ ?_ _) | (with_reducible refine chain ?_ (by assumption) ?_) | omega | (simp; done) | (simp; omega)))

theorem fnExactLeastExp_walk {r c : Int} {A : Option Addr} {n cp : Nat} {xs : List D5} {w : World} (hR : Rd w A xs) (hl : xs.length = n) (hm : n ≤ maxLen) :
    Calls Try.prog 3 #[mv r c A n cp] w fun ee w' => ee = .returned (.bool true) ∧ Below w.heap.size w w' := by
  by_cases hb : n ≤ 1048576
  · cases hok : okM r c n xs
    · exact lwLeastExp (k := 0) (ok := false) (fun g w h => le_s_f h hl hb hok) (fun g w h => le_i_f h hl hb hok) hR hl hb
    · exact lwLeastExp (k := maxE xs) (ok := true) (fun g w h => le_s_t h hl hb hok) (fun g w h => le_i_t h hl hb hok) hR hl hb
  · exact bigLeastExp0 (by omega) hm

end Go.Proofs.Ytofclfgaekjonaa
