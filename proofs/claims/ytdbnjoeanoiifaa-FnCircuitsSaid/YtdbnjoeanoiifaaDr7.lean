/- Draws of circuits: plain facts for a circuit to map. -/
import Derived.Test.YtdbnjoeanoiifaaDr6
namespace Go.Proofs.Ytdbnjoeanoiifaa
open Go.RowKit
set_option linter.unusedVariables false
set_option linter.unusedSimpArgs false
attribute [local irreducible] World.setCell

/-- some number of steps leads to a number that is not in the list -/
theorem free_at {ts : List Int} {n k : Int} (h1 : (ts.length : Int) < n) (h2 : ts.length ≤ 2) (h5 : n ≤ 5) (k0 : 0 ≤ k) (k1 : k < n) : ∃ r : Nat, r ≤ 2 ∧ (k + (r : Int)) % n ∉ ts := by
  match ts, h1, h2 with
  | [], _, _ => exact ⟨0, by omega, by simp⟩
  | [a], h1, _ =>
    have h1 : 1 < n := by simpa using h1
    have hn : n = 2 ∨ n = 3 ∨ n = 4 ∨ n = 5 := by omega
    by_cases h : k % n = a
    · refine ⟨1, by omega, ?_⟩
      rw [List.mem_singleton]
      rcases hn with rfl | rfl | rfl | rfl <;> omega
    · refine ⟨0, by omega, ?_⟩
      rw [List.mem_singleton]
      rcases hn with rfl | rfl | rfl | rfl <;> omega
  | [a, b], h1, _ =>
    have h1 : 2 < n := by simpa using h1
    have hn : n = 3 ∨ n = 4 ∨ n = 5 := by omega
    have hm : ∀ x : Int, x ∉ [a, b] ↔ x ≠ a ∧ x ≠ b := fun x => by simp
    by_cases h : k % n ≠ a ∧ k % n ≠ b
    · refine ⟨0, by omega, ?_⟩
      rw [hm]
      rcases hn with rfl | rfl | rfl <;> omega
    · by_cases h' : (k + 1) % n ≠ a ∧ (k + 1) % n ≠ b
      · exact ⟨1, by omega, (hm _).2 h'⟩
      · refine ⟨2, by omega, ?_⟩
        rw [hm]
        rcases hn with rfl | rfl | rfl <;> omega
/-- a step that leads nearer -/
theorem free_step {ts : List Int} {n k : Int} {r : Nat} (h5 : n ≤ 5) (k0 : 0 ≤ k) (k1 : k < n) (h : (k + (r : Int)) % n ∉ ts) (hk : k ∈ ts) : ∃ q : Nat, r = q + 1 ∧ ((k + 1) % n + (q : Int)) % n ∉ ts ∧ 0 ≤ (k + 1) % n ∧ (k + 1) % n < n := by
  cases r with
  | zero => exact absurd hk (by rw [show k = (k + ((0 : Nat) : Int)) % n from by rw [Int.natCast_zero, Int.add_zero, Int.emod_eq_of_lt k0 k1]]; exact h)
  | succ q =>
    refine ⟨q, rfl, ?_, Int.emod_nonneg _ (by omega), Int.emod_lt_of_pos _ (by omega)⟩
    rw [Int.emod_add_emod, show k + 1 + (q : Int) = k + ((q + 1 : Nat) : Int) by omega]
    exact h
theorem Own.beside {α : Type} {E : Enc α} {W W' : World} {base : Nat} {t : TypeId} {v : Value} {xs : List α} {row : Option Nat} (h : Own E W base t v xs) (hg : W.grownBy W' row) (hr : ∀ r, row = some r → some r ≠ v.ownBlock) : Own E W' base t v xs := by
  refine h.kept hg ?_
  cases hv : v.ownBlock with
  | none => exact Or.inl rfl
  | some k => exact Or.inr (fun e => hr k (by first | exact e | exact e.symm) hv.symm)
end Go.Proofs.Ytdbnjoeanoiifaa
