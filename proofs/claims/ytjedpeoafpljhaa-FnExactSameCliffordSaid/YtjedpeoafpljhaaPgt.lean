/- The tableau of a gate: what the model wants. -/
import Derived.Test.YtjedpeoafpljhaaPgd
import Derived.Test.YtjedpeoafpljhaaPap
import Derived.Test.YtjedpeoafpljhaaPit
namespace Go.Proofs.Ytjedpeoafpljhaa.C4
open Go.RowKit
set_option linter.unusedVariables false
set_option linter.unusedSimpArgs false
attribute [local irreducible] World.setCell

open GM
theorem Bs.set1 {α : Type} {E : Enc α} {W : World} {g : Nat} {t : TypeId} {xs : List α} {k i p : Nat} {x y : α} {v : Value} (h : Bs E W g t xs) (hx : xs[k]? = some x) (hi : i < E.n) (hc : E.cs y = (E.cs x).set i v) (hp : p = k * E.n + i) : Bs E (W.setCell ⟨g, p, none⟩ v) g t (xs.set k y) := by
  subst hp
  obtain ⟨r, h⟩ := h
  refine ⟨r, ?_⟩
  have h1 := setN_heap (W := W) (g := g) (o := k * E.n + i) [v] h
  have h2 : setN W g (k * E.n + i) [v] = W.setCell ⟨g, k * E.n + i, none⟩ v := rfl
  rw [h2] at h1
  have hl : k * E.n + i + [v].length ≤ (E.all xs).length := by
    rw [Enc.all_len, List.length_singleton]
    have hk : k < xs.length := (List.getElem?_eq_some_iff.1 hx).1
    have : (k + 1) * E.n ≤ xs.length * E.n := Nat.mul_le_mul_right _ hk
    rw [Nat.succ_mul] at this
    omega
  rw [setL_left _ _ _ _ hl, setL_eq _ _ _ hl] at h1
  rw [h1, all_set1 hx hi hc]
  congr 3
  rw [List.set_eq_take_append_cons_drop, if_pos (by rw [List.length_singleton] at hl; omega)]
  simp
theorem Bs.drew {α : Type} {E : Enc α} {W : World} {g : Nat} {t : TypeId} {xs : List α} (h : Bs E W g t xs) : Bs E W.drew g t xs := h
theorem Ow2.split {W : World} {B n : Nat} {vx vz : Value} {f g : Nat → PauliV} (q1 : 1 ≤ n) (h : Ow2 W B vx vz (tab n f) (tab n g)) : ∃ gx cx gz cz : Nat, vx = .slice (some ⟨gx, 0, none⟩) n cx ∧ vz = .slice (some ⟨gz, 0, none⟩) n cz ∧ Bs pauliE W gx 43 (tab n f) ∧ Bs pauliE W gz 43 (tab n g) ∧ B ≤ gx ∧ B ≤ gz ∧ gx ≠ gz := by
  obtain ⟨h1, h2, h3⟩ := h
  obtain ⟨A, c, e1, o1⟩ := h1.ow
  obtain ⟨A2, c2, e2, o2⟩ := h2.ow
  rcases o1 with ⟨e, -⟩ | ⟨gx, rfl, b1, s1⟩
  · have := congrArg List.length e; rw [tab_len] at this; simp at this; omega
  rcases o2 with ⟨e, -⟩ | ⟨gz, rfl, b2, s2⟩
  · have := congrArg List.length e; rw [tab_len] at this; simp at this; omega
  rw [tab_len] at e1 e2
  subst e1 e2
  exact ⟨gx, c, gz, c2, rfl, rfl, s1, s2, b1, b2, fun e => h3 gx rfl (by rw [e]; rfl)⟩
end Go.Proofs.Ytjedpeoafpljhaa.C4
