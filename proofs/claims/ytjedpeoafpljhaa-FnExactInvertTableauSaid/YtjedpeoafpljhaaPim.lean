/- Images of Pauli operators: numbers. -/
import Derived.Test.YtjedpeoafpljhaaPap
import Derived.Test.YtjedpeoafpljhaaPm
import Derived.Test.YtjedpeoafpljhaaPt
import Derived.Test.YtjedpeoafpljhaaRgx
namespace Go.Proofs.Ytjedpeoafpljhaa.C4
open Go.RowKit
set_option linter.unusedVariables false
set_option linter.unusedSimpArgs false
attribute [local irreducible] World.setCell

abbrev St := Nat × Nat × Nat
def mulN (a b : St) : St := (mp a.1 a.2.1 a.2.2 b.1 b.2.1 b.2.2, a.2.1 ^^^ b.2.1, a.2.2 ^^^ b.2.2)
def nat3 (x : PauliV) : St := (x.f0.toNat, x.f1.toNat, x.f2.toNat)
theorem nat3_pv (p a b : Nat) : nat3 (pv p a b) = (p, a, b) := rfl
/-- a letter's image is multiplied -/
def img1 (l : Nat) (s X Z : St) : St := if l = 1 then mulN s X else if l = 2 then mulN s Z else if l = 3 then (((mulN (mulN s X) Z).1 + 1) % 4, (mulN (mulN s X) Z).2) else s
def imgS (px pz : Nat) (xs zs : List PauliV) (p0 : Nat) : Nat → St
  | 0 => (p0, 0, 0)
  | k + 1 => img1 (lt px pz k) (imgS px pz xs zs p0 k) (nat3 (xs.getD k PauliV.z)) (nat3 (zs.getD k PauliV.z))
theorem mulN_up (s X Z : St) : mulN (mulN (s.1 + 1, s.2) X) Z = (((mulN (mulN s X) Z).1 + 1) % 4, (mulN (mulN s X) Z).2) := by
  unfold mulN mp
  simp only [Prod.mk.injEq, and_true]
  omega
def okS (n : Nat) (s : St) : Prop := s.1 < 4 ∧ s.2.1 < 2 ^ n ∧ s.2.2 < 2 ^ n
theorem okS_mul {n : Nat} {s t : St} (h1 : s.2.1 < 2 ^ n ∧ s.2.2 < 2 ^ n) (h2 : t.2.1 < 2 ^ n ∧ t.2.2 < 2 ^ n) : okS n (mulN s t) := ⟨Nat.mod_lt _ (by decide), Nat.xor_lt_two_pow h1.1 h2.1, Nat.xor_lt_two_pow h1.2 h2.2⟩
/-- a list of n valid operators -/
def okL (n : Nat) (xs : List PauliV) : Prop := xs.length = n ∧ ∀ (k : Nat) (x : PauliV), xs[k]? = some x → pB (n : Int) x = true
theorem okL_at {n j : Nat} {xs : List PauliV} (h : okL n xs) (hj : j < n) : ∃ p a b : Nat, xs[j]? = some (pv p a b) ∧ p ≤ 3 ∧ a < 2 ^ n ∧ b < 2 ^ n ∧ nat3 (xs.getD j PauliV.z) = (p, a, b) := by
  obtain ⟨x, hx⟩ : ∃ x, xs[j]? = some x := ⟨_, List.getElem?_eq_getElem (by rw [h.1]; exact hj)⟩
  obtain ⟨k, p, a, b, hk, -, -, rfl, h3, h4, h5⟩ := pB_nat (h.2 j x hx)
  obtain rfl : n = k := by omega
  exact ⟨p, a, b, hx, h3, h4, h5, by rw [List.getD_eq_getElem?_getD, hx]; rfl⟩
theorem lt_c (x z q : Nat) : lt x z q = 0 ∨ lt x z q = 1 ∨ lt x z q = 2 ∨ lt x z q = 3 := by have := lt_4 x z q; omega
theorem imgS_0 {px pz p0 j : Nat} {xs zs : List PauliV} (h : lt px pz j = 0) : imgS px pz xs zs p0 (j + 1) = imgS px pz xs zs p0 j := by
  show img1 (lt px pz j) _ _ _ = _; rw [h]; rfl
theorem imgS_1 {px pz p0 j : Nat} {xs zs : List PauliV} {s X : St} (h : lt px pz j = 1) (hs : s = imgS px pz xs zs p0 j) (hX : nat3 (xs.getD j PauliV.z) = X) : mulN s X = imgS px pz xs zs p0 (j + 1) := by
  show _ = img1 (lt px pz j) _ _ _; rw [h, hs, hX]; rfl
theorem imgS_2 {px pz p0 j : Nat} {xs zs : List PauliV} {s Z : St} (h : lt px pz j = 2) (hs : s = imgS px pz xs zs p0 j) (hZ : nat3 (zs.getD j PauliV.z) = Z) : mulN s Z = imgS px pz xs zs p0 (j + 1) := by
  show _ = img1 (lt px pz j) _ _ _; rw [h, hs, hZ]; rfl
theorem imgS_3 {px pz p0 j : Nat} {xs zs : List PauliV} {s X Z : St} (h : lt px pz j = 3) (hs : s = imgS px pz xs zs p0 j) (hX : nat3 (xs.getD j PauliV.z) = X) (hZ : nat3 (zs.getD j PauliV.z) = Z) : (((mulN (mulN s X) Z).1 + 1) % 4, (mulN (mulN s X) Z).2) = imgS px pz xs zs p0 (j + 1) := by
  show _ = img1 (lt px pz j) _ _ _; rw [h, hs, hX, hZ]; rfl
end Go.Proofs.Ytjedpeoafpljhaa.C4
