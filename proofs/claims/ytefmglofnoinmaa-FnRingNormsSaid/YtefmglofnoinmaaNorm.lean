/- Contracts of NormOf and of its model, out of those of AbsSquare. -/
import Derived.Test.YtefmglofnoinmaaAbsS
namespace Go.Proofs.Ytefmglofnoinmaa
open Go.RowKit RM
set_option linter.unusedVariables false
set_option linter.unusedSimpArgs false

set_option maxRecDepth 100000 in
set_option maxHeartbeats 2000000 in
theorem norm_i_t (a b c d u v : Int) (hA : ∀ w : World, Calls Try.prog 26 #[rg a b c d] w fun e w' => e = .returned (.tuple #[.int .i64 u, .int .i64 v, .bool true]) ∧ Below w.heap.size w w') (hu : -1000000000 ≤ u ∧ u ≤ 1000000000) (hv : -1000000000 ≤ v ∧ v ≤ 1000000000) (w : World) :
    Calls Try.prog 31 #[rg a b c d] w fun e w' => e = .returned (.tuple #[.int .i64 (u * u - 2 * v * v), .bool true]) ∧ Below w.heap.size w w' := by
  have HA := hid hA
  clear hA
  obtain ⟨uu1, uu2⟩ := mul_bd hu hu
  have hvv := mul_bd hv hv
  have has : 2 * v * v = 2 * (v * v) := Int.mul_assoc 2 v v
  have v21 : -2000000000000000000 ≤ 2 * v * v := by rw [has]; omega
  have v22 : 2 * v * v ≤ 2000000000000000000 := by rw [has]; omega
  clear hvv has
  obtain ⟨u1, u2⟩ := hu
  obtain ⟨v1, v2⟩ := hv
  go_enter Try.func31, Try.ntmps31
  go_wp2_with (first | (go_at_call 26; ((with_reducible refine (HA.out _).mono ?_); rintro e w1 ⟨rfl, hb1⟩; obtain ⟨hc1, hf1, _⟩ := bcell hb1; have hz1 := hb1.size; (try simp at hz1); (try have hx10 : w.heap.size < w1.heap.size := (by omega)); (try have hx11 : w.heap.size + 1 < w1.heap.size := (by omega)); (try have hx12 : w.heap.size + 1 + 1 < w1.heap.size := (by omega)); (try have hx13 : w.heap.size + 1 + 1 + 1 < w1.heap.size := (by omega)))) | go_in)
  go_ret2
  refine ⟨rfl, ?_⟩
  repeat' (first | (with_reducible exact Below.refl _ _) | (with_reducible refine Below.alloc ?_ ?_ _) | (with_reducible refine Below.drew ?_) | (with_reducible refine Below.setCell ?_ ?_ _) | (with_reducible refine chain ?_ (by assumption) ?_) | omega | (simp; done) | (simp; omega))

set_option maxRecDepth 100000 in
set_option maxHeartbeats 2000000 in
theorem norm_i_z (a b c d : Int) (hA : ∀ w : World, Calls Try.prog 26 #[rg a b c d] w fun e w' => e = .returned (.tuple #[.int .i64 0, .int .i64 0, .bool false]) ∧ Below w.heap.size w w') (w : World) :
    Calls Try.prog 31 #[rg a b c d] w fun e w' => e = .returned (.tuple #[.int .i64 0, .bool false]) ∧ Below w.heap.size w w' := by
  have HA := hid hA
  clear hA
  go_enter Try.func31, Try.ntmps31
  go_wp2_with (first | (go_at_call 26; ((with_reducible refine (HA.out _).mono ?_); rintro e w1 ⟨rfl, hb1⟩; obtain ⟨hc1, hf1, _⟩ := bcell hb1; have hz1 := hb1.size; (try simp at hz1); (try have hx10 : w.heap.size < w1.heap.size := (by omega)); (try have hx11 : w.heap.size + 1 < w1.heap.size := (by omega)); (try have hx12 : w.heap.size + 1 + 1 < w1.heap.size := (by omega)); (try have hx13 : w.heap.size + 1 + 1 + 1 < w1.heap.size := (by omega)))) | go_in)
  go_ret2
  refine ⟨rfl, ?_⟩
  repeat' (first | (with_reducible exact Below.refl _ _) | (with_reducible refine Below.alloc ?_ ?_ _) | (with_reducible refine Below.drew ?_) | (with_reducible refine Below.setCell ?_ ?_ _) | (with_reducible refine chain ?_ (by assumption) ?_) | omega | (simp; done) | (simp; omega))

set_option maxRecDepth 100000 in
set_option maxHeartbeats 2000000 in
theorem norm_s_t (a b c d u v : Int) (hA : ∀ w : World, Calls Try.prog 75 #[rg a b c d] w fun e w' => e = .returned (.tuple #[.int .i64 u, .int .i64 v, .bool true]) ∧ Below w.heap.size w w') (hu : -1000000000 ≤ u ∧ u ≤ 1000000000) (hv : -1000000000 ≤ v ∧ v ≤ 1000000000) (w : World) :
    Calls Try.prog 32 #[rg a b c d] w fun e w' => e = .returned (.tuple #[.int .i64 (u * u - 2 * v * v), .bool true]) ∧ Below w.heap.size w w' := by
  have HA := hid hA
  clear hA
  obtain ⟨uu1, uu2⟩ := mul_bd hu hu
  have hvv := mul_bd hv hv
  have has : 2 * v * v = 2 * (v * v) := Int.mul_assoc 2 v v
  have v21 : -2000000000000000000 ≤ 2 * v * v := by rw [has]; omega
  have v22 : 2 * v * v ≤ 2000000000000000000 := by rw [has]; omega
  clear hvv has
  obtain ⟨u1, u2⟩ := hu
  obtain ⟨v1, v2⟩ := hv
  go_enter Try.func32, Try.ntmps32
  go_wp2_with (first | (go_at_call 75; ((with_reducible refine (HA.out _).mono ?_); rintro e w1 ⟨rfl, hb1⟩; obtain ⟨hc1, hf1, _⟩ := bcell hb1; have hz1 := hb1.size; (try simp at hz1); (try have hx10 : w.heap.size < w1.heap.size := (by omega)); (try have hx11 : w.heap.size + 1 < w1.heap.size := (by omega)); (try have hx12 : w.heap.size + 1 + 1 < w1.heap.size := (by omega)); (try have hx13 : w.heap.size + 1 + 1 + 1 < w1.heap.size := (by omega)))) | go_in)
  go_ret2
  refine ⟨rfl, ?_⟩
  repeat' (first | (with_reducible exact Below.refl _ _) | (with_reducible refine Below.alloc ?_ ?_ _) | (with_reducible refine Below.drew ?_) | (with_reducible refine Below.setCell ?_ ?_ _) | (with_reducible refine chain ?_ (by assumption) ?_) | omega | (simp; done) | (simp; omega))

set_option maxRecDepth 100000 in
set_option maxHeartbeats 2000000 in
theorem norm_s_z (a b c d : Int) (hA : ∀ w : World, Calls Try.prog 75 #[rg a b c d] w fun e w' => e = .returned (.tuple #[.int .i64 0, .int .i64 0, .bool false]) ∧ Below w.heap.size w w') (w : World) :
    Calls Try.prog 32 #[rg a b c d] w fun e w' => e = .returned (.tuple #[.int .i64 0, .bool false]) ∧ Below w.heap.size w w' := by
  have HA := hid hA
  clear hA
  go_enter Try.func32, Try.ntmps32
  go_wp2_with (first | (go_at_call 75; ((with_reducible refine (HA.out _).mono ?_); rintro e w1 ⟨rfl, hb1⟩; obtain ⟨hc1, hf1, _⟩ := bcell hb1; have hz1 := hb1.size; (try simp at hz1); (try have hx10 : w.heap.size < w1.heap.size := (by omega)); (try have hx11 : w.heap.size + 1 < w1.heap.size := (by omega)); (try have hx12 : w.heap.size + 1 + 1 < w1.heap.size := (by omega)); (try have hx13 : w.heap.size + 1 + 1 + 1 < w1.heap.size := (by omega)))) | go_in)
  go_ret2
  refine ⟨rfl, ?_⟩
  repeat' (first | (with_reducible exact Below.refl _ _) | (with_reducible refine Below.alloc ?_ ?_ _) | (with_reducible refine Below.drew ?_) | (with_reducible refine Below.setCell ?_ ?_ _) | (with_reducible refine chain ?_ (by assumption) ?_) | omega | (simp; done) | (simp; omega))
end Go.Proofs.Ytefmglofnoinmaa
