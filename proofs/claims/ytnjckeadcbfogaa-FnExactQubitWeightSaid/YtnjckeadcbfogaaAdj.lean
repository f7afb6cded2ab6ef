/- Contracts of the model of Adjoint. -/
import Derived.Test.YtnjckeadcbfogaaZp19
import Derived.Test.YtnjckeadcbfogaaZp8
namespace Go.Proofs.Ytnjckeadcbfogaa
open Go.RowKit RM
set_option linter.unusedVariables false
set_option linter.unusedSimpArgs false
attribute [local irreducible] World.setCell

/-- the conjugate -/
def conj5 (x : D5) : D5 := ⟨x.a, -x.d, -x.c, -x.b, x.e⟩
theorem cjs {x : D5} (h : x.ok = true) (w : World) : Calls Try.prog 110 #[x.v] w fun ee w' => ee = .returned (conj5 x).v ∧ Below w.heap.size w w' := by
  obtain ⟨a, b, c, d, e'⟩ := x
  obtain ⟨e, h1, h2⟩ := ok_nat h
  exact l2cj a b c d e' w (vd_iff.1 h2).1
theorem vd_conj {a b c d : Int} {e : Nat} (h : vd a b c d e = true) : vd a (-d) (-c) (-b) e = true := by
  obtain ⟨h1, h2, h3⟩ := vd_iff.1 h
  refine vd_iff.2 ⟨?_, h2, ?_⟩
  · rw [vr_iff] at *; omega
  · rcases h3 with h3 | h3
    · exact Or.inl h3
    · refine Or.inr ?_
      cases hq : ev2 a (-d) (-c) (-b)
      · rfl
      · rw [← h3]
        simp only [ev2, Bool.and_eq_true, tm2''] at hq
        symm
        simp only [ev2, Bool.and_eq_true, tm2'']
        omega
theorem conj_ok {x : D5} (h : x.ok = true) : (conj5 x).ok = true := by
  obtain ⟨a, b, c, d, e'⟩ := x
  obtain ⟨e, h1, h2⟩ := ok_nat h
  dsimp only at h1 h2
  subst h1
  unfold D5.ok conj5
  rw [vi_nat]
  exact vd_conj h2
end Go.Proofs.Ytnjckeadcbfogaa
