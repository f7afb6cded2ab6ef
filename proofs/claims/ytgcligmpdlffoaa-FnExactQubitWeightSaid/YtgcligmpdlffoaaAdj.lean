/- Contracts of the model of Adjoint. -/
import Derived.Test.YtgcligmpdlffoaaZp21
import Derived.Test.YtgcligmpdlffoaaZp9
namespace Go.Proofs.Ytgcligmpdlffoaa
open Go.RowKit RM
set_option linter.unusedVariables false
set_option linter.unusedSimpArgs false
attribute [local irreducible] World.setCell

/-- the conjugate -/
def conj5 (x : D5) : D5 := ⟨x.a, -x.d, -x.c, -x.b, x.e⟩
theorem cjs {x : D5} (h : x.ok = true) (w : World) : Calls Try.prog 74 #[x.v] w fun ee w' => ee = .returned (conj5 x).v ∧ Below w.heap.size w w' := by
  obtain ⟨a, b, c, d, e'⟩ := x
  obtain ⟨e, h1, h2⟩ := ok_nat h
  exact l2cj a b c d e' w (vd_iff.1 h2).1
theorem cji {x : D5} (h : x.ok = true) (w : World) : Calls Try.prog 131 #[x.v] w fun ee w' => ee = .returned (.tuple #[(conj5 x).v, .bool true]) ∧ Below w.heap.size w w' := by
  obtain ⟨a, b, c, d, e'⟩ := x
  obtain ⟨e, h1, h2⟩ := ok_nat h
  dsimp only at h1 h2
  subst h1
  exact cj_i_t a b c d e w h2
theorem vd_conj {a b c d : Int} {e : Nat} (h : vd a b c d e = true) : vd a (-d) (-c) (-b) e = true := by
  obtain ⟨h1, h2, h3⟩ := vd_iff.1 h
  refine vd_iff.2 ⟨?_, h2, ?_⟩
  · rw [vr_iff] at *; omega
  · rcases h3 with h3 | h3
    · exact Or.inl h3
    · refine Or.inr ?_
      cases hq : ev2 a (-d) (-c) (-b)
      · rfl
      · rw [← h3]
        simp only [ev2, Bool.and_eq_true, tm2''] at hq
        symm
        simp only [ev2, Bool.and_eq_true, tm2'']
        omega
theorem conj_ok {x : D5} (h : x.ok = true) : (conj5 x).ok = true := by
  obtain ⟨a, b, c, d, e'⟩ := x
  obtain ⟨e, h1, h2⟩ := ok_nat h
  dsimp only at h1 h2
  subst h1
  unfold D5.ok conj5
  rw [vi_nat]
  exact vd_conj h2
/-- the adjoint's cell -/
def adjF (r c : Nat) (xs : List D5) (q : Nat) : D5 := conj5 (xs.getD (q % r * c + q / r) z5)
theorem adjF_at {r c i j : Nat} {xs : List D5} (hi : i < r) : adjF r c xs (j * r + i) = conj5 (xs.getD (i * c + j) z5) := by
  unfold adjF
  rw [Nat.mul_comm j r, Nat.mul_add_mod, Nat.mod_eq_of_lt hi, Nat.mul_add_div (by omega), Nat.div_eq_of_lt hi, Nat.add_zero]

end Go.Proofs.Ytgcligmpdlffoaa
