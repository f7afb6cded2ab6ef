/- Composition: its words. -/
import Derived.Test.YtjedpeoafpljhaaPim
import Derived.Test.YtjedpeoafpljhaaPid
namespace Go.Proofs.Ytjedpeoafpljhaa.C4
open Go.RowKit
set_option linter.unusedVariables false
set_option linter.unusedSimpArgs false
attribute [local irreducible] World.setCell

/-- the image of an operator -/
def imV (n : Nat) (xs zs : List PauliV) (p : PauliV) : PauliV := pv (imgS (nat3 p).2.1 (nat3 p).2.2 xs zs (nat3 p).1 n).1 (imgS (nat3 p).2.1 (nat3 p).2.2 xs zs (nat3 p).1 n).2.1 (imgS (nat3 p).2.1 (nat3 p).2.2 xs zs (nat3 p).1 n).2.2
theorem imV_of {n p a b P X Z : Nat} {xs zs : List PauliV} {y : PauliV} (hy : nat3 y = (p, a, b)) (h : imgS a b xs zs p n = (P, X, Z)) : pv P X Z = imV n xs zs y := by
  unfold imV
  rw [hy]
  show _ = pv (imgS a b xs zs p n).1 (imgS a b xs zs p n).2.1 (imgS a b xs zs p n).2.2
  rw [h]
/-- the images of a list -/
def thF (n : Nat) (xs zs ys : List PauliV) (q : Nat) : PauliV := imV n xs zs (ys.getD q PauliV.z)
def mixL (f g : Nat → PauliV) (n j : Nat) : List PauliV := tab n (fun q => if q < j then f q else g q)
theorem mixL_0 (f g : Nat → PauliV) (n : Nat) : mixL f g n 0 = tab n g := tab_congr (fun q _ => by rw [if_neg (Nat.not_lt_zero q)])
theorem mixL_n (f g : Nat → PauliV) (n : Nat) : mixL f g n n = tab n f := tab_congr (fun q hq => by rw [if_pos hq])
theorem mixL_at {f g : Nat → PauliV} {n j : Nat} (h : j < n) : (mixL f g n j)[j]? = some (g j) := by
  unfold mixL; rw [tab_get h, if_neg (Nat.lt_irrefl j)]
theorem mixL_len (f g : Nat → PauliV) (n j : Nat) : (mixL f g n j).length = n := tab_len _ _
theorem mixL_set {f g : Nat → PauliV} {n j : Nat} (h : j < n) : (mixL f g n j).set j (f j) = mixL f g n (j + 1) := by
  refine List.ext_getElem? (fun p => ?_)
  have hl : (mixL f g n j).length = n := tab_len _ _
  by_cases hp : p < n
  · by_cases e : j = p
    · subst e
      rw [List.getElem?_set_self (by omega)]
      unfold mixL; rw [tab_get hp, if_pos (by omega)]
    · rw [List.getElem?_set_ne e]
      unfold mixL; rw [tab_get hp, tab_get hp]
      by_cases h1 : p < j
      · rw [if_pos h1, if_pos (by omega)]
      · rw [if_neg h1, if_neg (by omega)]
  · rw [List.getElem?_eq_none (by rw [List.length_set, hl]; omega), List.getElem?_eq_none (by unfold mixL; rw [tab_len]; omega)]
end Go.Proofs.Ytjedpeoafpljhaa.C4
