/- Contracts of AbsSquare. -/
import Derived.Test.YtefmglofnoinmaaMulIt
import Derived.Test.YtefmglofnoinmaaMulIo
import Derived.Deep.QuietTactic
import Derived.BigQuiet
import Derived.Lib.SmallJoins
import Derived.OwnWalk
namespace Go.Proofs.Ytefmglofnoinmaa
open Go.RowKit RM
set_option linter.unusedVariables false
set_option linter.unusedSimpArgs false
/-- u and v of a number's absolute square -/
def uu (a b c d : Int) : Int := a * a + b * b + c * c + d * d
def vv (a b c d : Int) : Int := a * b + b * c + c * d - d * a
theorem mulc_eq (a b c d : Int) : m0 a b c d a (-d) (-c) (-b) = uu a b c d ∧ m1 a b c d a (-d) (-c) (-b) = vv a b c d ∧ m2 a b c d a (-d) (-c) (-b) = 0 ∧ m3 a b c d a (-d) (-c) (-b) = -vv a b c d := by
  have h1 := Int.mul_comm a d
  have h2 := Int.mul_comm b a
  have h3 := Int.mul_comm c b
  have h4 := Int.mul_comm d c
  have h5 := Int.mul_comm a c
  have h6 := Int.mul_comm b d
  simp only [m0, m1, m2, m3, uu, vv, Int.mul_neg]
  omega
theorem vr_conj {a b c d : Int} (h : vr a b c d = true) : vr a (-d) (-c) (-b) = true := by
  rw [vr_iff] at *; omega
theorem uv_iff {a b c d : Int} : vr (uu a b c d) (vv a b c d) 0 (-vv a b c d) = true ↔ (-1000000000 ≤ uu a b c d ∧ uu a b c d ≤ 1000000000) ∧ (-1000000000 ≤ vv a b c d ∧ vv a b c d ≤ 1000000000) := by
  rw [vr_iff]; omega
theorem mulc_t (a b c d : Int) (w : World) (hx : vr a b c d = true) (hv : vr (uu a b c d) (vv a b c d) 0 (-vv a b c d) = true) :
    Calls Try.prog 20 #[rg a b c d, rg a (-d) (-c) (-b)] w fun e w' => e = .returned (rt (uu a b c d) (vv a b c d) 0 (-vv a b c d) true) ∧ Below w.heap.size w w' := by
  obtain ⟨e0, e1, e2, e3⟩ := mulc_eq a b c d
  have h := mul_i_t a b c d a (-d) (-c) (-b) w hx (vr_conj hx) (by rw [e0, e1, e2, e3]; exact hv)
  rw [e0, e1, e2, e3] at h
  exact h
theorem mulc_o (a b c d : Int) (w : World) (hx : vr a b c d = true) (hv : vr (uu a b c d) (vv a b c d) 0 (-vv a b c d) = false) :
    Calls Try.prog 20 #[rg a b c d, rg a (-d) (-c) (-b)] w fun e w' => e = .returned (rt 0 0 0 0 false) ∧ Below w.heap.size w w' := by
  obtain ⟨e0, e1, e2, e3⟩ := mulc_eq a b c d
  have h := mul_i_o a b c d a (-d) (-c) (-b) w hx (vr_conj hx) (by rw [e0, e1, e2, e3]; exact hv)
  exact h

set_option maxRecDepth 100000 in
set_option maxHeartbeats 2000000 in
theorem abs_i_t (a b c d : Int) (w : World) (hx : vr a b c d = true) (hv : vr (uu a b c d) (vv a b c d) 0 (-vv a b c d) = true) :
    Calls Try.prog 26 #[rg a b c d] w fun e w' => e = .returned (.tuple #[.int .i64 (uu a b c d), .int .i64 (vv a b c d), .bool true]) ∧ Below w.heap.size w w' := by
  have HX := hid hx
  clear hx
  have HV := hid hv
  clear hv
  go_enter Try.func26, Try.ntmps26
  go_wp2_with (first | (go_at_call 23; ((with_reducible refine (conj_i_t _ _ _ _ _ HX.out).mono ?_); rintro e w1 ⟨rfl, hb1⟩; obtain ⟨hc1, hf1, _⟩ := bcell hb1; have hz1 := hb1.size; (try simp at hz1); (try have hx10 : w.heap.size < w1.heap.size := (by omega)); (try have hx11 : w.heap.size + 1 < w1.heap.size := (by omega)); (try have hx12 : w.heap.size + 1 + 1 < w1.heap.size := (by omega)); (try have hx13 : w.heap.size + 1 + 1 + 1 < w1.heap.size := (by omega)))) | (go_at_call 20; ((with_reducible refine (mulc_t _ _ _ _ _ HX.out HV.out).mono ?_); rintro e w2 ⟨rfl, hb2⟩; obtain ⟨hc2, hf2, _⟩ := bcell hb2; have hz2 := hb2.size; (try simp at hz2); (try have hx20 : w.heap.size < w2.heap.size := (by omega)); (try have hx21 : w.heap.size + 1 < w2.heap.size := (by omega)); (try have hx22 : w.heap.size + 1 + 1 < w2.heap.size := (by omega)); (try have hx23 : w.heap.size + 1 + 1 + 1 < w2.heap.size := (by omega)))) | go_in)
  go_quiet (fail)
  go_wp2_with fail
  go_ret3
  refine ⟨rfl, ?_⟩
  repeat' (first | (with_reducible exact Below.refl _ _) | (with_reducible refine Below.alloc ?_ ?_ _) | (with_reducible refine Below.drew ?_) | (with_reducible refine Below.setCell ?_ ?_ _) | (with_reducible refine chain ?_ (by assumption) ?_) | (with_reducible refine (?_ : Below _ _ _).trans (Joins.below_draws _ _ _)) | omega | (simp; done) | (simp; omega))

set_option maxRecDepth 100000 in
set_option maxHeartbeats 2000000 in
theorem abs_i_o (a b c d : Int) (w : World) (hx : vr a b c d = true) (hv : vr (uu a b c d) (vv a b c d) 0 (-vv a b c d) = false) :
    Calls Try.prog 26 #[rg a b c d] w fun e w' => e = .returned (.tuple #[.int .i64 0, .int .i64 0, .bool false]) ∧ Below w.heap.size w w' := by
  have HX := hid hx
  clear hx
  have HV := hid hv
  clear hv
  go_enter Try.func26, Try.ntmps26
  go_wp2_with (first | (go_at_call 23; ((with_reducible refine (conj_i_t _ _ _ _ _ HX.out).mono ?_); rintro e w1 ⟨rfl, hb1⟩; obtain ⟨hc1, hf1, _⟩ := bcell hb1; have hz1 := hb1.size; (try simp at hz1); (try have hx10 : w.heap.size < w1.heap.size := (by omega)); (try have hx11 : w.heap.size + 1 < w1.heap.size := (by omega)); (try have hx12 : w.heap.size + 1 + 1 < w1.heap.size := (by omega)); (try have hx13 : w.heap.size + 1 + 1 + 1 < w1.heap.size := (by omega)))) | (go_at_call 20; ((with_reducible refine (mulc_o _ _ _ _ _ HX.out HV.out).mono ?_); rintro e w2 ⟨rfl, hb2⟩; obtain ⟨hc2, hf2, _⟩ := bcell hb2; have hz2 := hb2.size; (try simp at hz2); (try have hx20 : w.heap.size < w2.heap.size := (by omega)); (try have hx21 : w.heap.size + 1 < w2.heap.size := (by omega)); (try have hx22 : w.heap.size + 1 + 1 < w2.heap.size := (by omega)); (try have hx23 : w.heap.size + 1 + 1 + 1 < w2.heap.size := (by omega)))) | go_in)
  go_quiet (fail)
  go_wp2_with fail
  go_ret3
  refine ⟨rfl, ?_⟩
  repeat' (first | (with_reducible exact Below.refl _ _) | (with_reducible refine Below.alloc ?_ ?_ _) | (with_reducible refine Below.drew ?_) | (with_reducible refine Below.setCell ?_ ?_ _) | (with_reducible refine chain ?_ (by assumption) ?_) | (with_reducible refine (?_ : Below _ _ _).trans (Joins.below_draws _ _ _)) | omega | (simp; done) | (simp; omega))

set_option maxRecDepth 100000 in
set_option maxHeartbeats 2000000 in
theorem abs_i_f (a b c d : Int) (w : World) (hx : vr a b c d = false) :
    Calls Try.prog 26 #[rg a b c d] w fun e w' => e = .returned (.tuple #[.int .i64 0, .int .i64 0, .bool false]) ∧ Below w.heap.size w w' := by
  have HX := hid hx
  clear hx
  go_enter Try.func26, Try.ntmps26
  go_wp2_with (first | (go_at_call 23; ((with_reducible refine (conj_i_f _ _ _ _ _ HX.out).mono ?_); rintro e w1 ⟨rfl, hb1⟩; obtain ⟨hc1, hf1, _⟩ := bcell hb1; have hz1 := hb1.size; (try simp at hz1); (try have hx10 : w.heap.size < w1.heap.size := (by omega)); (try have hx11 : w.heap.size + 1 < w1.heap.size := (by omega)); (try have hx12 : w.heap.size + 1 + 1 < w1.heap.size := (by omega)); (try have hx13 : w.heap.size + 1 + 1 + 1 < w1.heap.size := (by omega)))) | (go_at_call 20; ((with_reducible refine (mul_i_f1 _ _ _ _ _ _ _ _ _ HX.out).mono ?_); rintro e w2 ⟨rfl, hb2⟩; obtain ⟨hc2, hf2, _⟩ := bcell hb2; have hz2 := hb2.size; (try simp at hz2); (try have hx20 : w.heap.size < w2.heap.size := (by omega)); (try have hx21 : w.heap.size + 1 < w2.heap.size := (by omega)); (try have hx22 : w.heap.size + 1 + 1 < w2.heap.size := (by omega)); (try have hx23 : w.heap.size + 1 + 1 + 1 < w2.heap.size := (by omega)))) | go_in)
  go_quiet (fail)
  go_wp2_with fail
  go_ret3
  refine ⟨rfl, ?_⟩
  repeat' (first | (with_reducible exact Below.refl _ _) | (with_reducible refine Below.alloc ?_ ?_ _) | (with_reducible refine Below.drew ?_) | (with_reducible refine Below.setCell ?_ ?_ _) | (with_reducible refine chain ?_ (by assumption) ?_) | (with_reducible refine (?_ : Below _ _ _).trans (Joins.below_draws _ _ _)) | omega | (simp; done) | (simp; omega))
end Go.Proofs.Ytefmglofnoinmaa
