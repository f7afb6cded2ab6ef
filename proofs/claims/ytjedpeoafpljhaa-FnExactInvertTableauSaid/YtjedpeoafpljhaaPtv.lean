/- Validity of tableaux: its words. -/
import Derived.Test.YtjedpeoafpljhaaPc
import Derived.Test.YtjedpeoafpljhaaPcat
import Derived.Test.YtjedpeoafpljhaaPt
namespace Go.Proofs.Ytjedpeoafpljhaa.C4
open Go.RowKit
set_option linter.unusedVariables false
set_option linter.unusedSimpArgs false
attribute [local irreducible] World.setCell

/-- do two Pauli operators anticommute? -/
def cAt (x y : PauliV) : Bool := acB x.f1.toNat x.f2.toNat y.f1.toNat y.f2.toNat
theorem cAt_pv (p a b q c d : Nat) : cAt (pv p a b) (pv q c d) = acB a b c d := rfl
/-- what is asked of element i: x -/
def okI (n : Nat) (ys : List PauliV) (i : Nat) (x : PauliV) : Prop := pB (n : Int) x = true ∧ x.f0 % 2 = 0 ∧ ∀ j y, j < i → ys[j]? = some y → cAt x y = decide ((i : Int) - (j : Int) = (n : Int))
def okU (n : Nat) (ys : List PauliV) (i : Nat) : Prop := ∀ k x, k < i → ys[k]? = some x → okI n ys k x
theorem okU_0 (n : Nat) (ys : List PauliV) : okU n ys 0 := fun k x hk => absurd hk (Nat.not_lt_zero k)
theorem okU_s {n i : Nat} {ys : List PauliV} {x : PauliV} (h : okU n ys i) (hx : ys[i]? = some x) (h2 : okI n ys i x) : okU n ys (i + 1) := by
  intro k y hk hy
  by_cases e : k = i
  · subst e; rw [hx] at hy; cases hy; exact h2
  · exact h k y (by omega) hy
/-- a valid tableau -/
def TOk (a0 : Int) (n1 n2 : Nat) (xs zs : List PauliV) : Prop := inB a0 1 5 = true ∧ (n1 : Int) = a0 ∧ (n2 : Int) = a0 ∧ okU a0.toNat (xs ++ zs) (xs ++ zs).length
/-- so far the inner loop -/
def okJ (n : Nat) (ys : List PauliV) (i : Nat) (x : PauliV) (j : Nat) : Prop := ∀ k y, k < j → ys[k]? = some y → cAt x y = decide ((i : Int) - (k : Int) = (n : Int))
theorem okJ_s {n i j : Nat} {ys : List PauliV} {x y : PauliV} (h : okJ n ys i x j) (hy : ys[j]? = some y) (h2 : cAt x y = decide ((i : Int) - (j : Int) = (n : Int))) : okJ n ys i x (j + 1) := by
  intro k z hk hz
  by_cases e : k = j
  · subst e; rw [hy] at hz; cases hz; exact h2
  · exact h k z (by omega) hz
theorem tF {t : Bool} {P : Prop} (h : t = true ↔ P) (hn : ¬ P) : false = t := by
  cases t
  · rfl
  · exact absurd (h.1 rfl) hn
end Go.Proofs.Ytjedpeoafpljhaa.C4
