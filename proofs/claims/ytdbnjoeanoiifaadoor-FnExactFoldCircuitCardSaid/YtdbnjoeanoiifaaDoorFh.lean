/- Numbers of two digits, written by both. -/
import Derived.Test.YtdbnjoeanoiifaaDoorFk
import Derived.Deep.RegionWith
namespace Go.Proofs.YtdbnjoeanoiifaaDoor
open Go.RowKit
set_option linter.unusedVariables false
set_option linter.unusedSimpArgs false
attribute [local irreducible] World.setCell

set_option maxRecDepth 100000 in
set_option maxHeartbeats 4000000 in
theorem sml_10 {q : Nat} (h : 10 ≤ q) (h2 : q ≤ 39) (w : World) :
    Calls Tryd.prog 98 #[.int .i64 (q : Int)] w fun ee w' => ee = .returned (.string (dg2 q)) ∧ Below w.heap.size w w' := by
  obtain rfl | rfl | rfl | rfl | rfl | rfl | rfl | rfl | rfl | rfl | rfl | rfl | rfl | rfl | rfl | rfl | rfl | rfl | rfl | rfl | rfl | rfl | rfl | rfl | rfl | rfl | rfl | rfl | rfl | rfl : q = 10 ∨ q = 11 ∨ q = 12 ∨ q = 13 ∨ q = 14 ∨ q = 15 ∨ q = 16 ∨ q = 17 ∨ q = 18 ∨ q = 19 ∨ q = 20 ∨ q = 21 ∨ q = 22 ∨ q = 23 ∨ q = 24 ∨ q = 25 ∨ q = 26 ∨ q = 27 ∨ q = 28 ∨ q = 29 ∨ q = 30 ∨ q = 31 ∨ q = 32 ∨ q = 33 ∨ q = 34 ∨ q = 35 ∨ q = 36 ∨ q = 37 ∨ q = 38 ∨ q = 39 := by omega
  all_goals
    go_enter Tryd.func98, Tryd.ntmps98
    go_wp2_with (fail)
    go_ret
    exact ⟨rfl, Below.refl _ _⟩
set_option maxRecDepth 100000 in
set_option maxHeartbeats 4000000 in
theorem sml_40 {q : Nat} (h : 40 ≤ q) (h2 : q ≤ 69) (w : World) :
    Calls Tryd.prog 98 #[.int .i64 (q : Int)] w fun ee w' => ee = .returned (.string (dg2 q)) ∧ Below w.heap.size w w' := by
  obtain rfl | rfl | rfl | rfl | rfl | rfl | rfl | rfl | rfl | rfl | rfl | rfl | rfl | rfl | rfl | rfl | rfl | rfl | rfl | rfl | rfl | rfl | rfl | rfl | rfl | rfl | rfl | rfl | rfl | rfl : q = 40 ∨ q = 41 ∨ q = 42 ∨ q = 43 ∨ q = 44 ∨ q = 45 ∨ q = 46 ∨ q = 47 ∨ q = 48 ∨ q = 49 ∨ q = 50 ∨ q = 51 ∨ q = 52 ∨ q = 53 ∨ q = 54 ∨ q = 55 ∨ q = 56 ∨ q = 57 ∨ q = 58 ∨ q = 59 ∨ q = 60 ∨ q = 61 ∨ q = 62 ∨ q = 63 ∨ q = 64 ∨ q = 65 ∨ q = 66 ∨ q = 67 ∨ q = 68 ∨ q = 69 := by omega
  all_goals
    go_enter Tryd.func98, Tryd.ntmps98
    go_wp2_with (fail)
    go_ret
    exact ⟨rfl, Below.refl _ _⟩
set_option maxRecDepth 100000 in
set_option maxHeartbeats 4000000 in
theorem sml_70 {q : Nat} (h : 70 ≤ q) (h2 : q ≤ 99) (w : World) :
    Calls Tryd.prog 98 #[.int .i64 (q : Int)] w fun ee w' => ee = .returned (.string (dg2 q)) ∧ Below w.heap.size w w' := by
  obtain rfl | rfl | rfl | rfl | rfl | rfl | rfl | rfl | rfl | rfl | rfl | rfl | rfl | rfl | rfl | rfl | rfl | rfl | rfl | rfl | rfl | rfl | rfl | rfl | rfl | rfl | rfl | rfl | rfl | rfl : q = 70 ∨ q = 71 ∨ q = 72 ∨ q = 73 ∨ q = 74 ∨ q = 75 ∨ q = 76 ∨ q = 77 ∨ q = 78 ∨ q = 79 ∨ q = 80 ∨ q = 81 ∨ q = 82 ∨ q = 83 ∨ q = 84 ∨ q = 85 ∨ q = 86 ∨ q = 87 ∨ q = 88 ∨ q = 89 ∨ q = 90 ∨ q = 91 ∨ q = 92 ∨ q = 93 ∨ q = 94 ∨ q = 95 ∨ q = 96 ∨ q = 97 ∨ q = 98 ∨ q = 99 := by omega
  all_goals
    go_enter Tryd.func98, Tryd.ntmps98
    go_wp2_with (fail)
    go_ret
    exact ⟨rfl, Below.refl _ _⟩
theorem sml2 {q : Nat} (h : q ≤ 99) (w : World) :
    Calls Tryd.prog 98 #[.int .i64 (q : Int)] w fun ee w' => ee = .returned (.string (dg2 q)) ∧ Below w.heap.size w w' := by
  by_cases a : q ≤ 9
  · have e : dg2 q = dgt q := by unfold dg2; rw [if_pos (by omega)]
    rw [e]; exact sml a w
  by_cases b : q ≤ 39
  · exact sml_10 (by omega) b w
  by_cases c : q ≤ 69
  · exact sml_40 (by omega) c w
  · exact sml_70 (by omega) h w
set_option maxRecDepth 100000 in
set_option maxHeartbeats 1000000 in
theorem fmi2 {q : Nat} (h : q ≤ 99) (w : World) :
    Calls Tryd.prog 80 #[.int .i64 (q : Int), .int .i64 10] w fun ee w' => ee = .returned (.string (dg2 q)) ∧ Below w.heap.size w w' := by
  have h0 : (0 : Int) ≤ (q : Int) := by omega
  have h1 : (q : Int) < 100 := by omega
  go_enter Tryd.func80, Tryd.ntmps80
  go_wp2_with (go_at_call 98; ((with_reducible refine (sml2 h _).mono ?_); rintro ee w1 ⟨rfl, hb1⟩))
  go_ret
  exact ⟨rfl, hb1⟩
set_option maxRecDepth 100000 in
set_option maxHeartbeats 1000000 in
theorem ito2 {q : Nat} (h : q ≤ 99) (w : World) :
    Calls Tryd.prog 56 #[.int .i64 (q : Int)] w fun ee w' => ee = .returned (.string (dg2 q)) ∧ Below w.heap.size w w' := by
  have h0 : (0 : Int) ≤ (q : Int) := by omega
  have h1 : (q : Int) < 100 := by omega
  go_enter Tryd.func56, Tryd.ntmps56
  go_wp2_with (go_at_call 80; ((with_reducible refine (fmi2 h _).mono ?_); rintro ee w1 ⟨rfl, hb1⟩))
  go_ret
  exact ⟨rfl, hb1⟩
set_option maxRecDepth 100000 in
set_option maxHeartbeats 1000000 in
theorem itoa2 {q : Nat} (h : q ≤ 99) (w : World) :
    Calls Tryd.prog 28 #[.int .i64 (q : Int)] w fun ee w' => ee = .returned (.string (dg2 q)) ∧ Below w.heap.size w w' := by
  have h0 : (0 : Int) ≤ (q : Int) := by omega
  have h1 : (q : Int) < 100 := by omega
  go_enter Tryd.func28, Tryd.ntmps28
  go_wp2_with (go_at_call 56; ((with_reducible refine (ito2 h _).mono ?_); rintro ee w1 ⟨rfl, hb1⟩))
  go_ret
  exact ⟨rfl, hb1⟩
set_option maxRecDepth 100000 in
set_option maxHeartbeats 4000000 in
theorem num2 {n : Nat} (h : n ≤ 99) (w : World) :
    Calls Tryd.prog 52 #[.int .i64 (n : Int)] w fun ee w' => ee = .returned (.string (dg2 n)) ∧ Below w.heap.size w w' := by
  by_cases h9 : n ≤ 9
  · have e : dg2 n = dgt n := by unfold dg2; rw [if_pos (by omega)]
    rw [e]; exact nums h9 w
  have hz : dg2 n = dgt (n / 10) ++ ⟨#[UInt8.ofNat (48 + ((n % 10 : Nat) : Int)).toNat]⟩ := by
    unfold dg2
    rw [if_neg (by omega)]
    have : (48 + ((n % 10 : Nat) : Int)).toNat = 48 + n % 10 := by omega
    rw [this]; rfl
  have ih := fun w => nums (q := n / 10) (by omega) w
  have hl : (dgt (n / 10)).size ≤ 19 := by rw [dgt_size]; decide
  have hq : ((n : Int)).tdiv 10 = ((n / 10 : Nat) : Int) := by rw [Int.tdiv_eq_ediv_of_nonneg (by omega)]; simp
  have hr : ((n : Int)).tmod 10 = ((n % 10 : Nat) : Int) := by rw [Int.tmod_eq_emod_of_nonneg (by omega)]; simp
  rw [hz]
  clear hz
  have hnn : ¬ ((n : Int) < 10) := by omega
  generalize (dgt (n / 10) : ByteArray) = S0 at *
  generalize hQ : n / 10 = q at *
  generalize hR : n % 10 = r at *
  have hq1 : q < 922337203685477581 := by omega
  have hr1 : r < 10 := by omega
  have hw1 : IntKind.i64.wrap (q : Int) = q := IntWalk.i64_in _ (by omega)
  have hw2 : IntKind.i64.wrap (48 + (r : Int)) = 48 + r := IntWalk.i64_in _ (by omega)
  have hw3 : IntKind.u8.wrap (48 + (r : Int)) = 48 + r := by simp [IntKind.wrap, IntKind.bits, IntKind.signed]; omega
  have kb := fun (w : World) (g : Nat) (hc : w.cell? ⟨g, 0, none⟩ = some (.int .u8 (48 + (r : Int)))) => cv1 w g (48 + (r : Int)) (by omega) (by omega) hc
  have hs1 : (⟨#[UInt8.ofNat (48 + (r : Int)).toNat]⟩ : ByteArray).size = 1 := rfl
  generalize (⟨#[UInt8.ofNat (48 + (r : Int)).toNat]⟩ : ByteArray) = S at *
  have hsum : ¬ (S0.size + S.size > 9223372036854775807) := by omega
  have ka := fun (w : World) => run_string_add_sum (P := Tryd.prog) w S0 S (by omega)
  clear hQ hR
  go_enter Tryd.func52, Tryd.ntmps52
  go_wp2
  go_region_with (first | (go_at_call 52; (with_reducible refine (ih _).mono ?_); rintro e w1 ⟨rfl, hb1⟩; obtain ⟨hc1, hf1, _⟩ := bcl hb1; have hz1 := hb1.size; simp at hz1))
  all_goals go_wp2
  all_goals refine bodyPost_ret (v := .string (S0 ++ S)) (by simp [results, Tryd.results52, go_sem, *]) rfl ⟨rfl, ?_⟩
  all_goals (repeat' (first | (with_reducible exact Below.refl _ _) | (with_reducible assumption) | (with_reducible refine Below.alloc ?_ ?_ _) | (with_reducible refine Below.drew ?_) | (with_reducible refine bdN ?_ _) | (with_reducible refine Below.setCell ?_ ?_ _) | (with_reducible refine chn ?_ (by assumption) ?_) | omega | (simp; done) | (simp; omega)))
end Go.Proofs.YtdbnjoeanoiifaaDoor
