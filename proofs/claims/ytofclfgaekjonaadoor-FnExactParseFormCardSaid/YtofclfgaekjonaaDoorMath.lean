/- Plain arithmetic for chapter 1: limits of products, the norm of a number that is not zero is not zero. No Go in sight. -/
namespace Go.Proofs.YtofclfgaekjonaaDoor.RM
/-- the four coefficients lie within the limit -/
def vr (a b c d : Int) : Bool := decide ((-1000000000 ≤ a ∧ a ≤ 1000000000) ∧ (-1000000000 ≤ b ∧ b ≤ 1000000000) ∧ (-1000000000 ≤ c ∧ c ≤ 1000000000) ∧ (-1000000000 ≤ d ∧ d ≤ 1000000000))
theorem vr_iff {a b c d : Int} : vr a b c d = true ↔ (-1000000000 ≤ a ∧ a ≤ 1000000000) ∧ (-1000000000 ≤ b ∧ b ≤ 1000000000) ∧ (-1000000000 ≤ c ∧ c ≤ 1000000000) ∧ (-1000000000 ≤ d ∧ d ≤ 1000000000) := by
  unfold vr; simp
theorem mul_bd {a b : Int} (ha : -1000000000 ≤ a ∧ a ≤ 1000000000) (hb : -1000000000 ≤ b ∧ b ≤ 1000000000) : -1000000000000000000 ≤ a * b ∧ a * b ≤ 1000000000000000000 := by
  have h1 : a.natAbs ≤ 1000000000 := by omega
  have h2 : b.natAbs ≤ 1000000000 := by omega
  have h3 := Nat.mul_le_mul h1 h2
  rw [← Int.natAbs_mul] at h3
  omega
/-- no two natural numbers but zero have one square twice the other -/
theorem nat_root (n : Nat) : ∀ u v : Nat, u ≤ n → u * u = 2 * (v * v) → u = 0 := by
  induction n with
  | zero => intro u v h _; omega
  | succ n ih =>
    intro u v h he
    by_cases hu : u = 0
    · exact hu
    · have e2 : u % 2 = 0 := by
        rcases Nat.mod_two_eq_zero_or_one u with h0 | h1
        · exact h0
        · have := Nat.mul_mod u u 2
          rw [he, h1] at this
          omega
      obtain ⟨x, rfl⟩ : ∃ x, u = 2 * x := ⟨u / 2, by omega⟩
      have e3 : v * v = 2 * (x * x) := by
        have e : 2 * x * (2 * x) = 4 * (x * x) := by rw [Nat.mul_mul_mul_comm]
        omega
      have hv2 : v % 2 = 0 := by
        rcases Nat.mod_two_eq_zero_or_one v with h0 | h1
        · exact h0
        · have := Nat.mul_mod v v 2
          rw [e3, h1] at this
          omega
      obtain ⟨y, rfl⟩ : ∃ y, v = 2 * y := ⟨v / 2, by omega⟩
      have e4 : x * x = 2 * (y * y) := by
        have e : 2 * y * (2 * y) = 4 * (y * y) := by rw [Nat.mul_mul_mul_comm]
        omega
      have := ih x y (by omega) e4
      omega
theorem root_ne {u v : Int} (hu : u ≠ 0) : u * u - 2 * (v * v) ≠ 0 := by
  intro h
  have h2 : u.natAbs * u.natAbs = 2 * (v.natAbs * v.natAbs) := by
    have a1 := Int.natAbs_mul_self (a := u)
    have a2 := Int.natAbs_mul_self (a := v)
    omega
  have := nat_root _ _ _ (Nat.le_refl _) h2
  omega
theorem sq_nonneg (a : Int) : 0 ≤ a * a := by
  have := Int.natAbs_mul_self (a := a); omega
theorem sq_pos {a : Int} (h : a ≠ 0) : 0 < a * a := by
  have h1 := sq_nonneg a
  have : a * a ≠ 0 := by
    intro h2
    rcases Int.mul_eq_zero.1 h2 with h3 | h3 <;> exact h h3
  omega
theorem sum4_pos {a b c d : Int} (h : a ≠ 0 ∨ b ≠ 0 ∨ c ≠ 0 ∨ d ≠ 0) : 0 < a * a + b * b + c * c + d * d := by
  have := sq_nonneg a
  have := sq_nonneg b
  have := sq_nonneg c
  have := sq_nonneg d
  rcases h with h | h | h | h
  all_goals (have := sq_pos h; omega)
theorem tdiv_bd {a n : Int} (ha : -1000000000 ≤ a ∧ a ≤ 1000000000) : -1000000000 ≤ a.tdiv n ∧ a.tdiv n ≤ 1000000000 := by
  have h := Int.natAbs_tdiv_le_natAbs a n
  omega
end Go.Proofs.YtofclfgaekjonaaDoor.RM
