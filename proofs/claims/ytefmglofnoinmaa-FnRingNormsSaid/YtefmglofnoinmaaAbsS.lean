/- Contracts of the model of AbsSquare. -/
import Derived.Test.YtefmglofnoinmaaAbsI
import Derived.IntWalk
namespace Go.Proofs.Ytefmglofnoinmaa
open Go.RowKit RM
set_option linter.unusedVariables false
set_option linter.unusedSimpArgs false
theorem sq_bd (a b c d : Int) (h : vr a b c d = true) : (0 ≤ uu a b c d ∧ uu a b c d ≤ 4000000000000000000) ∧ (-4000000000000000000 ≤ vv a b c d ∧ vv a b c d ≤ 4000000000000000000) := by
  obtain ⟨ha, hb, hc, hd⟩ := vr_iff.1 h
  have := sq_nonneg a
  have := sq_nonneg b
  have := sq_nonneg c
  have := sq_nonneg d
  have := mul_bd ha ha
  have := mul_bd hb hb
  have := mul_bd hc hc
  have := mul_bd hd hd
  have := mul_bd ha hb
  have := mul_bd hb hc
  have := mul_bd hc hd
  have := mul_bd hd ha
  unfold uu vv
  omega

set_option maxRecDepth 100000 in
set_option maxHeartbeats 2000000 in
theorem labs (a b c d : Int) (w : World) (hx : vr a b c d = true) :
    Calls Try.prog 99 #[rg a b c d] w fun e w' => e = .returned (.tuple #[.int .i64 (uu a b c d), .int .i64 (vv a b c d)]) ∧ Below w.heap.size w w' := by
  obtain ⟨ha, hb, hc, hd⟩ := vr_iff.1 hx
  obtain ⟨aa1, aa2⟩ := mul_bd ha ha
  obtain ⟨bb1, bb2⟩ := mul_bd hb hb
  obtain ⟨cc1, cc2⟩ := mul_bd hc hc
  obtain ⟨dd1, dd2⟩ := mul_bd hd hd
  obtain ⟨ab1, ab2⟩ := mul_bd ha hb
  obtain ⟨bc1, bc2⟩ := mul_bd hb hc
  obtain ⟨cd1, cd2⟩ := mul_bd hc hd
  obtain ⟨da1, da2⟩ := mul_bd hd ha
  clear ha hb hc hd
  have HX := hid hx
  clear hx
  go_enter Try.func99, Try.ntmps99
  go_wp2_with (first | go_in)
  go_quiet (fail)
  go_wp2_with fail
  go_ret2
  refine ⟨by simp [uu, vv], ?_⟩
  repeat' (first | (with_reducible exact Below.refl _ _) | (with_reducible refine Below.alloc ?_ ?_ _) | (with_reducible refine Below.drew ?_) | (with_reducible refine Below.setCell ?_ ?_ _) | (with_reducible refine chain ?_ (by assumption) ?_) | (with_reducible refine (?_ : Below _ _ _).trans (Joins.below_draws _ _ _)) | omega | (simp; done) | (simp; omega))

set_option maxRecDepth 100000 in
set_option maxHeartbeats 2000000 in
theorem abs_s_t (a b c d : Int) (w : World) (hx : vr a b c d = true) (hv : vr (uu a b c d) (vv a b c d) 0 (-vv a b c d) = true) :
    Calls Try.prog 75 #[rg a b c d] w fun e w' => e = .returned (.tuple #[.int .i64 (uu a b c d), .int .i64 (vv a b c d), .bool true]) ∧ Below w.heap.size w w' := by
  obtain ⟨⟨u1, u2⟩, ⟨v1, v2⟩⟩ := sq_bd a b c d hx
  obtain ⟨⟨u3, u4⟩, ⟨v3, v4⟩⟩ := uv_iff.1 hv
  have HX := hid hx
  clear hx
  have HV := hid hv
  clear hv
  go_enter Try.func75, Try.ntmps75
  go_wp2_with (first | (go_at_call 67; ((with_reducible refine (lg_t _ _ _ _ _ HX.out).mono ?_); rintro e w1 ⟨rfl, hb1⟩; obtain ⟨hc1, hf1, _⟩ := bcell hb1; have hz1 := hb1.size; (try simp at hz1); (try have hx10 : w.heap.size < w1.heap.size := (by omega)); (try have hx11 : w.heap.size + 1 < w1.heap.size := (by omega)); (try have hx12 : w.heap.size + 1 + 1 < w1.heap.size := (by omega)); (try have hx13 : w.heap.size + 1 + 1 + 1 < w1.heap.size := (by omega)))) | (go_at_call 99; ((with_reducible refine (labs _ _ _ _ _ HX.out).mono ?_); rintro e w2 ⟨rfl, hb2⟩; obtain ⟨hc2, hf2, _⟩ := bcell hb2; have hz2 := hb2.size; (try simp at hz2); (try have hx20 : w.heap.size < w2.heap.size := (by omega)); (try have hx21 : w.heap.size + 1 < w2.heap.size := (by omega)); (try have hx22 : w.heap.size + 1 + 1 < w2.heap.size := (by omega)); (try have hx23 : w.heap.size + 1 + 1 + 1 < w2.heap.size := (by omega)))) | go_in)
  go_rounds 3
  go_ret3
  refine ⟨rfl, ?_⟩
  repeat' (first | (with_reducible exact Below.refl _ _) | (with_reducible refine Below.alloc ?_ ?_ _) | (with_reducible refine Below.drew ?_) | (with_reducible refine Below.setCell ?_ ?_ _) | (with_reducible refine chain ?_ (by assumption) ?_) | omega | (simp; done) | (simp; omega))

set_option maxRecDepth 100000 in
set_option maxHeartbeats 2000000 in
theorem abs_s_o (a b c d : Int) (w : World) (hx : vr a b c d = true) (hv : vr (uu a b c d) (vv a b c d) 0 (-vv a b c d) = false) :
    Calls Try.prog 75 #[rg a b c d] w fun e w' => e = .returned (.tuple #[.int .i64 0, .int .i64 0, .bool false]) ∧ Below w.heap.size w w' := by
  obtain ⟨⟨u1, u2⟩, ⟨v1, v2⟩⟩ := sq_bd a b c d hx
  have hn : ¬ ((-1000000000 ≤ uu a b c d ∧ uu a b c d ≤ 1000000000) ∧ (-1000000000 ≤ vv a b c d ∧ vv a b c d ≤ 1000000000)) := fun k => by rw [uv_iff.2 k] at hv; cases hv
  have HN := hid hn
  clear hn
  have HX := hid hx
  clear hx
  have HV := hid hv
  clear hv
  go_enter Try.func75, Try.ntmps75
  go_wp2_with (first | (go_at_call 67; ((with_reducible refine (lg_t _ _ _ _ _ HX.out).mono ?_); rintro e w1 ⟨rfl, hb1⟩; obtain ⟨hc1, hf1, _⟩ := bcell hb1; have hz1 := hb1.size; (try simp at hz1); (try have hx10 : w.heap.size < w1.heap.size := (by omega)); (try have hx11 : w.heap.size + 1 < w1.heap.size := (by omega)); (try have hx12 : w.heap.size + 1 + 1 < w1.heap.size := (by omega)); (try have hx13 : w.heap.size + 1 + 1 + 1 < w1.heap.size := (by omega)))) | (go_at_call 99; ((with_reducible refine (labs _ _ _ _ _ HX.out).mono ?_); rintro e w2 ⟨rfl, hb2⟩; obtain ⟨hc2, hf2, _⟩ := bcell hb2; have hz2 := hb2.size; (try simp at hz2); (try have hx20 : w.heap.size < w2.heap.size := (by omega)); (try have hx21 : w.heap.size + 1 < w2.heap.size := (by omega)); (try have hx22 : w.heap.size + 1 + 1 < w2.heap.size := (by omega)); (try have hx23 : w.heap.size + 1 + 1 + 1 < w2.heap.size := (by omega)))) | go_in)
  go_rounds 3
  all_goals (first | (go_ret3; refine ⟨rfl, ?_⟩; (repeat' (first | (with_reducible exact Below.refl _ _) | (with_reducible refine Below.alloc ?_ ?_ _) | (with_reducible refine Below.drew ?_) | (with_reducible refine Below.setCell ?_ ?_ _) | (with_reducible refine chain ?_ (by assumption) ?_) | omega | (simp; done) | (simp; omega))); done) | (exfalso; refine HN.out ?_; simp only [Bool.not_eq_false', decide_eq_true_eq] at *; exact ⟨⟨by omega, by omega⟩, ⟨by omega, by omega⟩⟩))

set_option maxRecDepth 100000 in
set_option maxHeartbeats 2000000 in
theorem abs_s_f (a b c d : Int) (w : World) (hx : vr a b c d = false) :
    Calls Try.prog 75 #[rg a b c d] w fun e w' => e = .returned (.tuple #[.int .i64 0, .int .i64 0, .bool false]) ∧ Below w.heap.size w w' := by
  have HX := hid hx
  clear hx
  go_enter Try.func75, Try.ntmps75
  go_wp2_with (first | (go_at_call 67; ((with_reducible refine (lg_f _ _ _ _ _ HX.out).mono ?_); rintro e w1 ⟨rfl, hb1⟩; obtain ⟨hc1, hf1, _⟩ := bcell hb1; have hz1 := hb1.size; (try simp at hz1); (try have hx10 : w.heap.size < w1.heap.size := (by omega)); (try have hx11 : w.heap.size + 1 < w1.heap.size := (by omega)); (try have hx12 : w.heap.size + 1 + 1 < w1.heap.size := (by omega)); (try have hx13 : w.heap.size + 1 + 1 + 1 < w1.heap.size := (by omega)))) | go_in)
  go_ret3
  refine ⟨rfl, ?_⟩
  repeat' (first | (with_reducible exact Below.refl _ _) | (with_reducible refine Below.alloc ?_ ?_ _) | (with_reducible refine Below.drew ?_) | (with_reducible refine Below.setCell ?_ ?_ _) | (with_reducible refine chain ?_ (by assumption) ?_) | omega | (simp; done) | (simp; omega))
end Go.Proofs.Ytefmglofnoinmaa
