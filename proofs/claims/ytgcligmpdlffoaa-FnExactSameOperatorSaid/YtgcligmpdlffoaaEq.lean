/- Contracts of EqualMatrices, of what it calls, and of its model. -/
import Derived.Test.YtgcligmpdlffoaaZp20
import Derived.Test.YtgcligmpdlffoaaStEq
import Derived.BigQuiet
import Derived.Deep.QuietTactic
import Derived.Deep.LoopGhost
namespace Go.Proofs.Ytgcligmpdlffoaa
open Go.RowKit RM
set_option linter.unusedVariables false
set_option linter.unusedSimpArgs false
attribute [local irreducible] World.setCell

/-- equality of numbers, of lists of them -/
def D5.beq (x y : D5) : Bool := x.a == y.a && x.b == y.b && x.c == y.c && x.d == y.d && x.e == y.e
theorem beq_iff5 {x y : D5} : x.beq y = true ↔ x = y := by
  obtain ⟨a, b, c, d, e⟩ := x
  obtain ⟨p, q, r, s, f⟩ := y
  simp [D5.beq, and_assoc]
def eqL : List D5 → List D5 → Bool
  | [], [] => true
  | x :: xs, y :: ys => x.beq y && eqL xs ys
  | _, _ => false
theorem eqL_iff {xs ys : List D5} : eqL xs ys = true ↔ xs = ys := by
  induction xs generalizing ys with
  | nil => cases ys <;> simp [eqL]
  | cons x xs ih => cases ys with
    | nil => simp [eqL]
    | cons y ys => simp [eqL, ih, beq_iff5]
theorem eqL_at {xs ys : List D5} {j : Nat} {x y : D5} (hx : xs[j]? = some x) (hy : ys[j]? = some y) (hne : x ≠ y) : eqL xs ys = false := by
  cases h : eqL xs ys
  · rfl
  · rw [eqL_iff.1 h, hy] at hx
    exact absurd (Option.some.inj hx).symm hne
theorem eqL_len {xs ys : List D5} (h : xs.length ≠ ys.length) : eqL xs ys = false := by
  cases hq : eqL xs ys
  · rfl
  · exact absurd (by rw [eqL_iff.1 hq]) h
theorem take_eq {xs ys : List D5} {j : Nat} {x : D5} (hx : xs[j]? = some x) (hy : ys[j]? = some x) (h : xs.take j = ys.take j) : xs.take (j + 1) = ys.take (j + 1) := by
  rw [List.take_add_one, List.take_add_one, hx, hy, h]
theorem eqL_end {xs ys : List D5} {j : Nat} (h1 : xs.length = j) (h2 : ys.length = j) (h : xs.take j = ys.take j) : eqL xs ys = true := by
  rw [List.take_of_length_le (by omega), List.take_of_length_le (by omega)] at h
  exact eqL_iff.2 h
theorem ne5 {x y : D5} (h : x ≠ y) : ¬ (x.a = y.a ∧ x.b = y.b ∧ x.c = y.c ∧ x.d = y.d ∧ x.e = y.e) := by
  obtain ⟨a, b, c, d, e⟩ := x
  obtain ⟨p, q, r, s, f⟩ := y
  rintro ⟨rfl, rfl, rfl, rfl, rfl⟩
  exact h rfl

def eqM (r c r' c' : Int) (xs ys : List D5) : Bool := r == r' && (c == c' && eqL xs ys)

end Go.Proofs.Ytgcligmpdlffoaa
