/- The model's inverse of a circuit. -/
import Derived.Test.YtdbnjoeanoiifaaGv
import Derived.Test.YtdbnjoeanoiifaaGi
import Derived.Test.YtdbnjoeanoiifaaAp
namespace Go.Proofs.Ytdbnjoeanoiifaa
open Go.RowKit
set_option linter.unusedVariables false
set_option linter.unusedSimpArgs false
attribute [local irreducible] World.setCell

/-- the inverse of a list of gates -/
def repG (g : GateV) : List GateV := List.replicate (bkN g) (bkG g)
def invL (xs : List GateV) : List GateV := xs.reverse.flatMap repG
theorem invL_nil : invL [] = [] := rfl
theorem invL_cons (x : GateV) (xs : List GateV) : invL (x :: xs) = invL xs ++ repG x := by
  unfold invL; rw [List.reverse_cons, List.flatMap_append]; simp
theorem bkN_le (g : GateV) : bkN g ≤ 7 := by unfold bkN; split <;> omega
theorem invL_len (xs : List GateV) : (invL xs).length ≤ 7 * xs.length := by
  induction xs with
  | nil => simp [invL]
  | cons x xs ih => rw [invL_cons, List.length_append, List.length_cons]; have := bkN_le x; unfold repG; rw [List.length_replicate]; omega
theorem drop_cons {xs : List GateV} {i : Nat} {x : GateV} (h : xs[i]? = some x) : xs.drop i = x :: xs.drop (i + 1) := by
  have hi := (List.getElem?_eq_some_iff.1 h).1
  have hv := (List.getElem?_eq_some_iff.1 h).2
  rw [List.drop_eq_getElem_cons hi, hv]
theorem rep_snoc {zs : List GateV} {N r : Nat} {y : GateV} (h : r + 1 ≤ N) : (zs ++ List.replicate (N - (r + 1)) y) ++ [y] = zs ++ List.replicate (N - r) y := by
  rw [List.append_assoc, show N - r = (N - (r + 1)) + 1 by omega, List.replicate_succ']
end Go.Proofs.Ytdbnjoeanoiifaa
