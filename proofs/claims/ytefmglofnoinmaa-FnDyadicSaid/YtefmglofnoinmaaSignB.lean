/- Contracts of RealSign and of its model. -/
import Derived.Test.YtefmglofnoinmaaSign
import Derived.Deep.LoopGhost
namespace Go.Proofs.Ytefmglofnoinmaa
open Go.RowKit RM
set_option linter.unusedVariables false
set_option linter.unusedSimpArgs false
attribute [local irreducible] World.setCell

set_option maxRecDepth 100000 in
set_option maxHeartbeats 2000000 in
theorem rs_i_t (u v : Int) (w : World) (hp : vp u v = true) :
    Calls Try.prog 59 #[.int .i64 u, .int .i64 v] w fun ee w' => ee = .returned (.tuple #[.int .i64 (sgn (ssq u + 2 * ssq v)), .bool true]) ∧ Below w.heap.size w w' := by
  obtain ⟨s1, s2⟩ := ssq_bd (vp_iff.1 hp).1
  obtain ⟨t1, t2⟩ := ssq_bd (vp_iff.1 hp).2
  have HP := hid hp
  clear hp
  go_enter Try.func59, Try.ntmps59
  go_wp2_with (first | (go_at_call 63; ((with_reducible refine (iv_t u v 0 0 _ HP.out).mono ?_); rintro ee w1 ⟨rfl, hb1⟩; obtain ⟨hc1, hf1, _⟩ := bcell hb1; have hz1 := hb1.size; (try simp at hz1); (try have hx10 : w.heap.size < w1.heap.size := (by omega)); (try have hx11 : w.heap.size + 1 < w1.heap.size := (by omega)); (try have hx12 : w.heap.size + 1 + 1 < w1.heap.size := (by omega)); (try have hx13 : w.heap.size + 1 + 1 + 1 < w1.heap.size := (by omega)))) | (go_at_call 97; ((with_reducible refine (sq_c u _ (vp_iff.1 HP.out).1).mono ?_); rintro ee w2 ⟨rfl, hb2⟩; obtain ⟨hc2, hf2, _⟩ := bcell hb2; have hz2 := hb2.size; (try simp at hz2); (try have hx20 : w.heap.size < w2.heap.size := (by omega)); (try have hx21 : w.heap.size + 1 < w2.heap.size := (by omega)); (try have hx22 : w.heap.size + 1 + 1 < w2.heap.size := (by omega)); (try have hx23 : w.heap.size + 1 + 1 + 1 < w2.heap.size := (by omega)))) | (go_at_call 97; ((with_reducible refine (sq_c v _ (vp_iff.1 HP.out).2).mono ?_); rintro ee w3 ⟨rfl, hb3⟩; obtain ⟨hc3, hf3, _⟩ := bcell hb3; have hz3 := hb3.size; (try simp at hz3); (try have hx30 : w.heap.size < w3.heap.size := (by omega)); (try have hx31 : w.heap.size + 1 < w3.heap.size := (by omega)); (try have hx32 : w.heap.size + 1 + 1 < w3.heap.size := (by omega)); (try have hx33 : w.heap.size + 1 + 1 + 1 < w3.heap.size := (by omega)))) | (go_at_call 96; ((with_reducible refine (cmp_c _ _).mono ?_); rintro ee w4 ⟨rfl, hb4⟩)) | go_in)
  refine bodyPost_ret (v := .tuple #[.int .i64 (sgn (ssq u + 2 * ssq v)), .bool true]) (by first | (simp [results, Try.results59, go_sem, *]; done) | (simp (disch := (first | omega | (simp; done) | (simp; omega))) [results, Try.results59, go_sem, *]; done) | (simp only [results, Try.results59]; go_simp; done)) rfl ⟨rfl, ?_⟩
  repeat' (first | (with_reducible exact Below.refl _ _) | (with_reducible refine Below.alloc ?_ ?_ _) | (with_reducible refine Below.drew ?_) | (with_reducible refine Below.setCell ?_ ?_ _) | (with_reducible refine chain ?_ (by assumption) ?_) | omega | (simp; done) | (simp; omega))

set_option maxRecDepth 100000 in
set_option maxHeartbeats 2000000 in
theorem rs_i_f (u v : Int) (w : World) (hp : vp u v = false) :
    Calls Try.prog 59 #[.int .i64 u, .int .i64 v] w fun ee w' => ee = .returned (.tuple #[.int .i64 0, .bool false]) ∧ Below w.heap.size w w' := by
  have HP := hid hp
  clear hp
  go_enter Try.func59, Try.ntmps59
  go_wp2_with (first | (go_at_call 63; ((with_reducible refine (iv_f u v 0 0 _ HP.out).mono ?_); rintro ee w1 ⟨rfl, hb1⟩; obtain ⟨hc1, hf1, _⟩ := bcell hb1; have hz1 := hb1.size; (try simp at hz1); (try have hx10 : w.heap.size < w1.heap.size := (by omega)); (try have hx11 : w.heap.size + 1 < w1.heap.size := (by omega)); (try have hx12 : w.heap.size + 1 + 1 < w1.heap.size := (by omega)); (try have hx13 : w.heap.size + 1 + 1 + 1 < w1.heap.size := (by omega)))) | go_in)
  refine bodyPost_ret (v := .tuple #[.int .i64 0, .bool false]) (by first | (simp [results, Try.results59, go_sem, *]; done) | (simp (disch := (first | omega | (simp; done) | (simp; omega))) [results, Try.results59, go_sem, *]; done) | (simp only [results, Try.results59]; go_simp; done)) rfl ⟨rfl, ?_⟩
  repeat' (first | (with_reducible exact Below.refl _ _) | (with_reducible refine Below.alloc ?_ ?_ _) | (with_reducible refine Below.drew ?_) | (with_reducible refine Below.setCell ?_ ?_ _) | (with_reducible refine chain ?_ (by assumption) ?_) | omega | (simp; done) | (simp; omega))

set_option maxRecDepth 100000 in
set_option maxHeartbeats 2000000 in
theorem rs_s_t (u v : Int) (w : World) (hp : vp u v = true) :
    Calls Try.prog 58 #[.int .i64 u, .int .i64 v] w fun ee w' => ee = .returned (.tuple #[.int .i64 (sgn (ssq u + 2 * ssq v)), .bool true]) ∧ Below w.heap.size w w' := by
  obtain ⟨⟨u1, u2⟩, ⟨v1, v2⟩⟩ := vp_iff.1 hp
  have HP := hid hp
  clear hp
  go_enter Try.func58, Try.ntmps58
  go_wp2_with (first | (go_at_call 95; ((with_reducible refine (l2s _ _ _ HP.out).mono ?_); rintro ee w4 ⟨rfl, hb4⟩)) | go_in)
  refine wp_loop_rounds 3 ?_
  repeat any_goals (rw [rounds_succ]; go_wp2_with (first | (go_at_call 95; ((with_reducible refine (l2s _ _ _ HP.out).mono ?_); rintro ee w4 ⟨rfl, hb4⟩)) | go_in))
  refine bodyPost_ret (v := .tuple #[.int .i64 (sgn (ssq u + 2 * ssq v)), .bool true]) (by first | (simp [results, Try.results58, go_sem, *]; done) | (simp (disch := (first | omega | (simp; done) | (simp; omega))) [results, Try.results58, go_sem, *]; done) | (simp only [results, Try.results58]; go_simp; done)) rfl ⟨rfl, ?_⟩
  repeat' (first | (with_reducible exact Below.refl _ _) | (with_reducible refine Below.alloc ?_ ?_ _) | (with_reducible refine Below.drew ?_) | (with_reducible refine Below.setCell ?_ ?_ _) | (with_reducible refine chain ?_ (by assumption) ?_) | omega | (simp; done) | (simp; omega))

set_option maxRecDepth 100000 in
set_option maxHeartbeats 2000000 in
theorem rs_s_f (u v : Int) (w : World) (hp : vp u v = false) :
    Calls Try.prog 58 #[.int .i64 u, .int .i64 v] w fun ee w' => ee = .returned (.tuple #[.int .i64 0, .bool false]) ∧ Below w.heap.size w w' := by
  have hn : ¬ _ := fun k => by rw [vp_iff.2 k] at hp; cases hp
  clear hp
  have HN := hid hn
  clear hn
  go_enter Try.func58, Try.ntmps58
  go_wp2_with (first | go_in)
  go_rounds 3
  all_goals (first | (exfalso; refine HN.out ?_; simp only [Bool.not_eq_false', decide_eq_true_eq] at *; exact ⟨⟨by omega, by omega⟩, ⟨by omega, by omega⟩⟩) | (refine bodyPost_ret (v := .tuple #[.int .i64 0, .bool false]) (by first | (simp [results, Try.results58, go_sem, *]; done) | (simp (disch := (first | omega | (simp; done) | (simp; omega))) [results, Try.results58, go_sem, *]; done) | (simp only [results, Try.results58]; go_simp; done)) rfl ⟨rfl, ?_⟩; repeat' (first | (with_reducible exact Below.refl _ _) | (with_reducible refine Below.alloc ?_ ?_ _) | (with_reducible refine Below.drew ?_) | (with_reducible refine Below.setCell ?_ ?_ _) | (with_reducible refine chain ?_ (by assumption) ?_) | omega | (simp; done) | (simp; omega))))
end Go.Proofs.Ytefmglofnoinmaa
