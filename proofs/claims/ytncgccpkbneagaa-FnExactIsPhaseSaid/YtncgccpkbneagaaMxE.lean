/- Numbers of matrices: a sum with zero in front, a product with one in front. -/
import Derived.Test.YtncgccpkbneagaaMxA
namespace Go.Proofs.Ytncgccpkbneagaa
open Go.RowKit RM
set_option linter.unusedVariables false
set_option linter.unusedSimpArgs false
attribute [local irreducible] World.setCell

theorem addS_zl {z : Bool} {y : D5} (hy : y.ok = true) : addS z z5 y = (y, z) := by
  obtain ⟨a, b, c, d, e'⟩ := y
  obtain ⟨e, k1, k2⟩ := ok_nat hy
  dsimp only at k1 k2
  subst k1
  obtain ⟨h1, h2, h3⟩ := vd_iff.1 k2
  have e1 : (z5.e.toNat - ((e : Int)).toNat) = 0 := by simp [z5]
  have e2 : ((e : Int)).toNat = e := by simp
  have e3 : z5.e.toNat = 0 := rfl
  unfold addS addR
  dsimp only
  rw [e1, e2, e3]
  simp only [z5, raisS, Nat.sub_zero, raisS_0, Int.zero_add, Nat.zero_add, h1, if_true, low_fix h3]
  rfl
theorem mulS_one {z : Bool} {y : D5} (hy : y.ok = true) : mulS z one5 y = (y, z) := by
  obtain ⟨a, b, c, d, e'⟩ := y
  obtain ⟨e, k1, k2⟩ := ok_nat hy
  dsimp only at k1 k2
  subst k1
  obtain ⟨h1, h2, h3⟩ := vd_iff.1 k2
  have e2 : ((e : Int)).toNat = e := by simp
  have e3 : one5.e.toNat = 0 := rfl
  have m0' : ∀ p q r s : Int, m0 1 0 0 0 p q r s = p := by intros; simp [m0]
  have m1' : ∀ p q r s : Int, m1 1 0 0 0 p q r s = q := by intros; simp [m1]
  have m2' : ∀ p q r s : Int, m2 1 0 0 0 p q r s = r := by intros; simp [m2]
  have m3' : ∀ p q r s : Int, m3 1 0 0 0 p q r s = s := by intros; simp [m3]
  unfold mulS
  dsimp only
  rw [e2, e3]
  simp only [one5, m0', m1', m2', m3', Nat.zero_add, h1, h2, if_true, low_fix h3]
  rfl
end Go.Proofs.Ytncgccpkbneagaa
