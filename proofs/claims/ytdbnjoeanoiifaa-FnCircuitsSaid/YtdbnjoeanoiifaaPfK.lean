/- Plain facts of circuits: counts, inverses. -/
import Derived.Test.YtdbnjoeanoiifaaGc
import Derived.Test.YtdbnjoeanoiifaaGn
namespace Go.Proofs.Ytdbnjoeanoiifaa
open Go.RowKit
set_option linter.unusedVariables false
set_option linter.unusedSimpArgs false
attribute [local irreducible] World.setCell

theorem gB_kind {n : Int} {g : GateV} (h : gB n g = true) : 1 ≤ g.f0 ∧ g.f0 ≤ 12 := by
  unfold gB at h
  split at h
  · rename_i k; omega
  · split at h
    · rename_i k; omega
    · have := of_decide_eq_true h; omega
theorem bkK_12 {k : Int} (h : ¬ k = 12) : ¬ bkK k = 12 := by
  unfold bkK
  repeat' split
  all_goals omega
theorem bkG_gB {n : Int} {g : GateV} (h : gB n g = true) : gB n (bkG g) = true := by
  obtain ⟨k, p, q⟩ := g
  have hk := gB_kind h
  dsimp only at hk
  have hc : k = 1 ∨ k = 2 ∨ k = 3 ∨ k = 4 ∨ k = 5 ∨ k = 6 ∨ k = 7 ∨ k = 8 ∨ k = 9 ∨ k = 10 ∨ k = 11 ∨ k = 12 := by omega
  rcases hc with rfl | rfl | rfl | rfl | rfl | rfl | rfl | rfl | rfl | rfl | rfl | rfl <;> exact h
theorem isT_bk {n : Int} {g : GateV} (h : gB n g = true) : (repG g).countP isT = if isT g then 1 else 0 := by
  obtain ⟨k, p, q⟩ := g
  have hk := gB_kind h
  dsimp only at hk
  have hc : k = 1 ∨ k = 2 ∨ k = 3 ∨ k = 4 ∨ k = 5 ∨ k = 6 ∨ k = 7 ∨ k = 8 ∨ k = 9 ∨ k = 10 ∨ k = 11 ∨ k = 12 := by omega
  rcases hc with rfl | rfl | rfl | rfl | rfl | rfl | rfl | rfl | rfl | rfl | rfl | rfl <;> rfl
theorem isTwo_bk {n : Int} {g : GateV} (h : gB n g = true) : (repG g).countP isTwo = if isTwo g then 1 else 0 := by
  obtain ⟨k, p, q⟩ := g
  have hk := gB_kind h
  dsimp only at hk
  have hc : k = 1 ∨ k = 2 ∨ k = 3 ∨ k = 4 ∨ k = 5 ∨ k = 6 ∨ k = 7 ∨ k = 8 ∨ k = 9 ∨ k = 10 ∨ k = 11 ∨ k = 12 := by omega
  rcases hc with rfl | rfl | rfl | rfl | rfl | rfl | rfl | rfl | rfl | rfl | rfl | rfl <;> rfl
theorem inv_isT {n : Int} {xs : List GateV} (h : xs.all (gB n) = true) : (invL xs).countP isT = xs.countP isT := by
  induction xs with
  | nil => rfl
  | cons x xs ih =>
    rw [List.all_cons, Bool.and_eq_true] at h
    rw [invL_cons, List.countP_append, List.countP_cons, ih h.2, isT_bk h.1]
theorem inv_isTwo {n : Int} {xs : List GateV} (h : xs.all (gB n) = true) : (invL xs).countP isTwo = xs.countP isTwo := by
  induction xs with
  | nil => rfl
  | cons x xs ih =>
    rw [List.all_cons, Bool.and_eq_true] at h
    rw [invL_cons, List.countP_append, List.countP_cons, ih h.2, isTwo_bk h.1]
theorem inv_gB {n : Int} {xs : List GateV} (h : xs.all (gB n) = true) : (invL xs).all (gB n) = true := by
  induction xs with
  | nil => rfl
  | cons x xs ih =>
    rw [List.all_cons, Bool.and_eq_true] at h
    rw [invL_cons, List.all_append, ih h.2, Bool.true_and]
    unfold repG
    rw [List.all_eq_true]
    intro y hy
    rw [List.eq_of_mem_replicate hy]
    exact bkG_gB h.1
/-- the inverse of a valid circuit of few gates is valid -/
theorem inv_ok {q : Int} {n k : Nat} {xs : List GateV} (h : okC q n xs = true) (hk : k ≤ 400) : okC q k (invL xs) = true := by
  unfold okC at h ⊢
  simp only [Bool.and_eq_true] at h ⊢
  exact ⟨⟨h.1.1, decide_eq_true hk⟩, inv_gB h.2⟩
/-- two valid circuits put one behind the other -/
theorem cat_ok {q : Int} {n m k : Nat} {xs ys : List GateV} (h : okC q n xs = true) (h2 : okC q m ys = true) (hk : k ≤ 400) : okC q k (xs ++ ys) = true := by
  unfold okC at h h2 ⊢
  simp only [Bool.and_eq_true] at h h2 ⊢
  exact ⟨⟨h.1.1, decide_eq_true hk⟩, by rw [List.all_append, h.2, h2.2]; rfl⟩
end Go.Proofs.Ytdbnjoeanoiifaa
