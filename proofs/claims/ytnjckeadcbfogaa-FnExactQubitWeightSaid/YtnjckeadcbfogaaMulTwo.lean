/- The product of two dyadic numbers: what the model and the program give. -/
import Derived.Test.YtnjckeadcbfogaaZp13
import Derived.Test.YtnjckeadcbfogaaZp12
import Derived.Test.YtnjckeadcbfogaaNormD
import Derived.Deep.LoopGhost
namespace Go.Proofs.Ytnjckeadcbfogaa
open Go.RowKit RM
set_option linter.unusedVariables false
set_option linter.unusedSimpArgs false
attribute [local irreducible] World.setCell

theorem vd_conj {a b c d : Int} {e : Nat} (h : vd a b c d e = true) : vd a (-d) (-c) (-b) e = true := by
  obtain ⟨h1, h2, h3⟩ := vd_iff.1 h
  refine vd_iff.2 ⟨?_, h2, ?_⟩
  · rw [vr_iff] at *; omega
  · rcases h3 with h3 | h3
    · exact Or.inl h3
    · refine Or.inr ?_
      cases hq : ev2 a (-d) (-c) (-b)
      · rfl
      · rw [← h3]
        simp only [ev2, Bool.and_eq_true, tm2''] at hq
        symm
        simp only [ev2, Bool.and_eq_true, tm2'']
        omega
set_option maxRecDepth 100000 in
set_option maxHeartbeats 4000000 in
theorem ns_i (a b c d : Int) (e : Nat) (r0 r1 r2 r3 r4 : Int) (ok : Bool) (w : World) (hx : vd a b c d e = true) (hm : ∀ w : World, Calls Try.prog 159 #[dy a b c d (e : Int), dy a (-d) (-c) (-b) (e : Int)] w fun ee w' => ee = .returned (dt r0 r1 r2 r3 r4 ok) ∧ Below w.heap.size w w') :
    Calls Try.prog 105 #[dy a b c d (e : Int)] w fun ee w' => ee = .returned (dt r0 r1 r2 r3 r4 ok) ∧ Below w.heap.size w w' := by
  have HX := hid hx
  clear hx
  have HM := hid hm
  clear hm
  go_enter Try.func105, Try.ntmps105
  go_wp2_with (first | (go_at_call 148; ((with_reducible refine (cj_i_t _ _ _ _ _ _ HX.out).mono ?_); rintro ee w1 ⟨rfl, hb1⟩; obtain ⟨hc1, hf1, _⟩ := bcell hb1; have hz1 := hb1.size; (try simp at hz1); (try have hx10 : w.heap.size < w1.heap.size := (by omega)); (try have hx11 : w.heap.size + 1 < w1.heap.size := (by omega)); (try have hx12 : w.heap.size + 1 + 1 < w1.heap.size := (by omega)); (try have hx13 : w.heap.size + 1 + 1 + 1 < w1.heap.size := (by omega)))) | (go_at_call 159; ((with_reducible refine (HM.out _).mono ?_); rintro ee w2 ⟨rfl, hb2⟩; obtain ⟨hc2, hf2, _⟩ := bcell hb2; have hz2 := hb2.size; (try simp at hz2); (try have hx20 : w.heap.size < w2.heap.size := (by omega)); (try have hx21 : w.heap.size + 1 < w2.heap.size := (by omega)); (try have hx22 : w.heap.size + 1 + 1 < w2.heap.size := (by omega)); (try have hx23 : w.heap.size + 1 + 1 + 1 < w2.heap.size := (by omega)))) | go_in)
  refine bodyPost_ret (v := dt r0 r1 r2 r3 r4 ok) (by first | (simp [results, Try.results105, go_sem, *]; done) | (simp (disch := (first | omega | (simp; done) | (simp; omega))) [results, Try.results105, go_sem, *]; done) | (simp only [results, Try.results105]; go_simp; done)) rfl ⟨rfl, ?_⟩
  repeat' (first | (with_reducible exact Below.refl _ _) | (with_reducible refine Below.alloc ?_ ?_ _) | (with_reducible refine Below.drew ?_) | (with_reducible refine Below.setCell ?_ ?_ _) | (with_reducible refine chain ?_ (by assumption) ?_) | omega | (simp; done) | (simp; omega))

end Go.Proofs.Ytnjckeadcbfogaa
