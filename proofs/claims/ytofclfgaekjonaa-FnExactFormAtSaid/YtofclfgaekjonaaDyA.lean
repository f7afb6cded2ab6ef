/- Contracts of what the laws and the model of chapter 2 call: the copy of a number, the comparison, validity, the lowest form. -/
import Derived.Test.YtofclfgaekjonaaMathD
import Derived.Test.YtofclfgaekjonaaDRootS
import Derived.Test.YtofclfgaekjonaaLawHelp
import Derived.Deep.LoopGhost
namespace Go.Proofs.Ytofclfgaekjonaa
open Go.RowKit RM
set_option linter.unusedVariables false
set_option linter.unusedSimpArgs false
attribute [local irreducible] World.setCell
/-- the value of a dyadic number; one and whether there is one -/
abbrev dy (a b c d e : Int) : Value := .agg #[.int .i64 a, .int .i64 b, .int .i64 c, .int .i64 d, .int .i64 e]
abbrev dt (a b c d e : Int) (ok : Bool) : Value := .tuple #[dy a b c d e, .bool ok]

theorem evt {a b c d : Int} (w : World) (h : ev2 a b c d = true) (hx : vr a b c d = true) :
    Calls Try.prog 156 #[rg a b c d] w fun ee w' => ee = .returned (.bool true) ∧ Below w.heap.size w w' := by
  unfold ev2 at h; simp only [Bool.and_eq_true] at h; exact ev_t a b c d w h.1 h.2 hx
theorem evf {a b c d : Int} (w : World) (h : ev2 a b c d = false) (hx : vr a b c d = true) :
    Calls Try.prog 156 #[rg a b c d] w fun ee w' => ee = .returned (.bool false) ∧ Below w.heap.size w w' := by
  cases k1 : ((a + c).tmod 2 == 0)
  · exact ev_1 a b c d w k1 hx
  · unfold ev2 at h; rw [k1, Bool.true_and] at h; exact ev_2 a b c d w k1 h hx

set_option maxRecDepth 100000 in
set_option maxHeartbeats 2000000 in
theorem td (a b c d e : Int) (w : World) :
    Calls Try.prog 109 #[dy a b c d e] w fun ee w' => ee = .returned (dy a b c d e) ∧ Below w.heap.size w w' := by
  go_enter Try.func109, Try.ntmps109
  go_wp2_with (first | (go_at_call 157; ((with_reducible refine (tr _ _ _ _ _).mono ?_); rintro ee w1 ⟨rfl, hb1⟩; obtain ⟨hc1, hf1, _⟩ := bcell hb1; have hz1 := hb1.size; (try simp at hz1); (try have hx10 : w.heap.size < w1.heap.size := (by omega)); (try have hx11 : w.heap.size + 1 < w1.heap.size := (by omega)); (try have hx12 : w.heap.size + 1 + 1 < w1.heap.size := (by omega)); (try have hx13 : w.heap.size + 1 + 1 + 1 < w1.heap.size := (by omega)))) | go_in)
  refine bodyPost_ret (v := dy a b c d e) (by first | (simp [results, Try.results109, go_sem, *]; done) | (simp (disch := (first | omega | (simp; done) | (simp; omega))) [results, Try.results109, go_sem, *]; done) | (simp only [results, Try.results109]; go_simp; done)) rfl ⟨rfl, ?_⟩
  repeat' (first | (with_reducible exact Below.refl _ _) | (with_reducible refine Below.alloc ?_ ?_ _) | (with_reducible refine Below.drew ?_) | (with_reducible refine Below.setCell ?_ ?_ _) | (with_reducible refine chain ?_ (by assumption) ?_) | omega | (simp; done) | (simp; omega))

set_option maxRecDepth 100000 in
set_option maxHeartbeats 2000000 in
theorem ed (a b c d e : Int) (w : World) :
    Calls Try.prog 111 #[dy a b c d e, dy a b c d e] w fun ee w' => ee = .returned (.bool true) ∧ Below w.heap.size w w' := by
  go_enter Try.func111, Try.ntmps111
  go_wp2_with (first | (go_at_call 158; ((with_reducible refine (er _ _ _ _ _).mono ?_); rintro ee w1 ⟨rfl, hb1⟩; obtain ⟨hc1, hf1, _⟩ := bcell hb1; have hz1 := hb1.size; (try simp at hz1); (try have hx10 : w.heap.size < w1.heap.size := (by omega)); (try have hx11 : w.heap.size + 1 < w1.heap.size := (by omega)); (try have hx12 : w.heap.size + 1 + 1 < w1.heap.size := (by omega)); (try have hx13 : w.heap.size + 1 + 1 + 1 < w1.heap.size := (by omega)))) | go_in)
  go_ret
  refine ⟨rfl, ?_⟩
  repeat' (first | (with_reducible exact Below.refl _ _) | (with_reducible refine Below.alloc ?_ ?_ _) | (with_reducible refine Below.drew ?_) | (with_reducible refine Below.setCell ?_ ?_ _) | (with_reducible refine chain ?_ (by assumption) ?_) | omega | (simp; done) | (simp; omega))
end Go.Proofs.Ytofclfgaekjonaa
