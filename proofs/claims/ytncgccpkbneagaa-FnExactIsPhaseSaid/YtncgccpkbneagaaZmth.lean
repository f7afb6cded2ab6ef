/- Math, MathD -/
namespace Go.Proofs.Ytncgccpkbneagaa.RM
/-- the four coefficients lie within the limit -/
def vr (a b c d : Int) : Bool := decide ((-1000000000 ≤ a ∧ a ≤ 1000000000) ∧ (-1000000000 ≤ b ∧ b ≤ 1000000000) ∧ (-1000000000 ≤ c ∧ c ≤ 1000000000) ∧ (-1000000000 ≤ d ∧ d ≤ 1000000000))
theorem vr_iff {a b c d : Int} : vr a b c d = true ↔ (-1000000000 ≤ a ∧ a ≤ 1000000000) ∧ (-1000000000 ≤ b ∧ b ≤ 1000000000) ∧ (-1000000000 ≤ c ∧ c ≤ 1000000000) ∧ (-1000000000 ≤ d ∧ d ≤ 1000000000) := by
  unfold vr; simp
theorem mul_bd {a b : Int} (ha : -1000000000 ≤ a ∧ a ≤ 1000000000) (hb : -1000000000 ≤ b ∧ b ≤ 1000000000) : -1000000000000000000 ≤ a * b ∧ a * b ≤ 1000000000000000000 := by
  have h1 : a.natAbs ≤ 1000000000 := by omega
  have h2 : b.natAbs ≤ 1000000000 := by omega
  have h3 := Nat.mul_le_mul h1 h2
  rw [← Int.natAbs_mul] at h3
  omega
/-- no two natural numbers but zero have one square twice the other -/
theorem nat_root (n : Nat) : ∀ u v : Nat, u ≤ n → u * u = 2 * (v * v) → u = 0 := by
  induction n with
  | zero => intro u v h _; omega
  | succ n ih =>
    intro u v h he
    by_cases hu : u = 0
    · exact hu
    · have e2 : u % 2 = 0 := by
        rcases Nat.mod_two_eq_zero_or_one u with h0 | h1
        · exact h0
        · have := Nat.mul_mod u u 2
          rw [he, h1] at this
          omega
      obtain ⟨x, rfl⟩ : ∃ x, u = 2 * x := ⟨u / 2, by omega⟩
      have e3 : v * v = 2 * (x * x) := by
        have e : 2 * x * (2 * x) = 4 * (x * x) := by rw [Nat.mul_mul_mul_comm]
        omega
      have hv2 : v % 2 = 0 := by
        rcases Nat.mod_two_eq_zero_or_one v with h0 | h1
        · exact h0
        · have := Nat.mul_mod v v 2
          rw [e3, h1] at this
          omega
      obtain ⟨y, rfl⟩ : ∃ y, v = 2 * y := ⟨v / 2, by omega⟩
      have e4 : x * x = 2 * (y * y) := by
        have e : 2 * y * (2 * y) = 4 * (y * y) := by rw [Nat.mul_mul_mul_comm]
        omega
      have := ih x y (by omega) e4
      omega
theorem root_ne {u v : Int} (hu : u ≠ 0) : u * u - 2 * (v * v) ≠ 0 := by
  intro h
  have h2 : u.natAbs * u.natAbs = 2 * (v.natAbs * v.natAbs) := by
    have a1 := Int.natAbs_mul_self (a := u)
    have a2 := Int.natAbs_mul_self (a := v)
    omega
  have := nat_root _ _ _ (Nat.le_refl _) h2
  omega
theorem sq_nonneg (a : Int) : 0 ≤ a * a := by
  have := Int.natAbs_mul_self (a := a); omega
theorem sq_pos {a : Int} (h : a ≠ 0) : 0 < a * a := by
  have h1 := sq_nonneg a
  have : a * a ≠ 0 := by
    intro h2
    rcases Int.mul_eq_zero.1 h2 with h3 | h3 <;> exact h h3
  omega
theorem sum4_pos {a b c d : Int} (h : a ≠ 0 ∨ b ≠ 0 ∨ c ≠ 0 ∨ d ≠ 0) : 0 < a * a + b * b + c * c + d * d := by
  have := sq_nonneg a
  have := sq_nonneg b
  have := sq_nonneg c
  have := sq_nonneg d
  rcases h with h | h | h | h
  all_goals (have := sq_pos h; omega)
theorem tdiv_bd {a n : Int} (ha : -1000000000 ≤ a ∧ a ≤ 1000000000) : -1000000000 ≤ a.tdiv n ∧ a.tdiv n ≤ 1000000000 := by
  have h := Int.natAbs_tdiv_le_natAbs a n
  omega
end Go.Proofs.Ytncgccpkbneagaa.RM
namespace Go.Proofs.Ytncgccpkbneagaa.RM
/-- four numbers and an exponent -/
structure Dy where
  a : Int
  b : Int
  c : Int
  d : Int
  e : Nat
/-- divisible by the square root of 2 -/
def ev2 (a b c d : Int) : Bool := ((a + c).tmod 2 == 0) && ((b + d).tmod 2 == 0)
/-- the lowest form -/
def low : Nat → Int → Int → Int → Int → Dy
  | 0, a, b, c, d => ⟨a, b, c, d, 0⟩
  | e + 1, a, b, c, d => if ev2 a b c d then low e ((b - d).tdiv 2) ((a + c).tdiv 2) ((b + d).tdiv 2) ((c - a).tdiv 2) else ⟨a, b, c, d, e + 1⟩
theorem td2' (x : Int) : 2 * (x.tdiv 2).natAbs ≤ x.natAbs := by
  rw [Int.natAbs_tdiv]; show 2 * (x.natAbs / 2) ≤ _; omega
theorem vr_half {a b c d : Int} (h : vr a b c d = true) : vr ((b - d).tdiv 2) ((a + c).tdiv 2) ((b + d).tdiv 2) ((c - a).tdiv 2) = true := by
  rw [vr_iff] at *
  have h1 := td2' (b - d)
  have h2 := td2' (a + c)
  have h3 := td2' (b + d)
  have h4 := td2' (c - a)
  omega
theorem low_vr (e : Nat) : ∀ {a b c d : Int} {A B C D : Int} {E : Nat}, vr a b c d = true → low e a b c d = ⟨A, B, C, D, E⟩ → vr A B C D = true ∧ E ≤ e ∧ (E = 0 ∨ ev2 A B C D = false) := by
  induction e with
  | zero => intro a b c d A B C D E h hl; simp only [low, Dy.mk.injEq] at hl; obtain ⟨rfl, rfl, rfl, rfl, rfl⟩ := hl; exact ⟨h, Nat.le_refl _, Or.inl rfl⟩
  | succ e ih =>
    intro a b c d A B C D E h hl
    rw [low] at hl
    split at hl
    · obtain ⟨h1, h2, h3⟩ := ih (vr_half h) hl
      exact ⟨h1, by omega, h3⟩
    · rename_i hn
      simp only [Dy.mk.injEq] at hl
      obtain ⟨rfl, rfl, rfl, rfl, rfl⟩ := hl
      exact ⟨h, Nat.le_refl _, Or.inr (by simpa using hn)⟩
theorem low_fix {e : Nat} {a b c d : Int} (h : e = 0 ∨ ev2 a b c d = false) : low e a b c d = ⟨a, b, c, d, e⟩ := by
  cases e with
  | zero => rfl
  | succ e => rw [low, if_neg (by simpa using h)]
/-- a dyadic number that is valid -/
def vd (a b c d : Int) (e : Nat) : Bool := vr a b c d && decide (e ≤ 60) && (decide (e = 0) || !ev2 a b c d)
theorem vd_iff {a b c d : Int} {e : Nat} : vd a b c d e = true ↔ vr a b c d = true ∧ e ≤ 60 ∧ (e = 0 ∨ ev2 a b c d = false) := by
  unfold vd; simp [and_assoc]
theorem low_vd {e : Nat} {a b c d A B C D : Int} {E : Nat} (hx : vr a b c d = true) (he : e ≤ 60) (hl : low e a b c d = ⟨A, B, C, D, E⟩) : vd A B C D E = true := by
  obtain ⟨h1, h2, h3⟩ := low_vr e hx hl
  exact vd_iff.2 ⟨h1, by omega, h3⟩
theorem low_ne {e : Nat} {a b c d A B C D : Int} {E : Nat} (hx : vr a b c d = true) (h : ¬ (e = 0 ∨ ev2 a b c d = false)) (hl : low e a b c d = ⟨A, B, C, D, E⟩) : E ≠ e := by
  cases e with
  | zero => exact absurd (Or.inl rfl) h
  | succ e =>
    rw [low, if_pos (by simp at h; exact h)] at hl
    have := (low_vr e (vr_half hx) hl).2.1
    omega
/-- four numbers -/
structure R4 where
  a : Int
  b : Int
  c : Int
  d : Int
/-- raise n times by the square root of 2, as the program does: stops at the first that is not valid -/
def rais : Nat → Int → Int → Int → Int → Option R4
  | 0, a, b, c, d => some ⟨a, b, c, d⟩
  | n + 1, a, b, c, d => if vr (b - d) (a + c) (b + d) (c - a) then rais n (b - d) (a + c) (b + d) (c - a) else none
/-- the same as the model does: goes on with zero and remembers -/
def raisS : Nat → Int → Int → Int → Int → Bool → R4 × Bool
  | 0, a, b, c, d, z => (⟨a, b, c, d⟩, z)
  | n + 1, a, b, c, d, z => if vr (b - d) (a + c) (b + d) (c - a) then raisS n (b - d) (a + c) (b + d) (c - a) z else raisS n 0 0 0 0 true
theorem raisS_bad (n : Nat) : ∀ {a b c d : Int} {A B C D : Int} {z : Bool}, vr a b c d = true → raisS n a b c d true = (⟨A, B, C, D⟩, z) → z = true ∧ vr A B C D = true := by
  induction n with
  | zero => intro a b c d A B C D z h hr; simp only [raisS, Prod.mk.injEq, R4.mk.injEq] at hr; obtain ⟨⟨rfl, rfl, rfl, rfl⟩, rfl⟩ := hr; exact ⟨rfl, h⟩
  | succ n ih =>
    intro a b c d A B C D z h hr
    rw [raisS] at hr
    split at hr
    · rename_i hv; exact ih hv hr
    · exact ih (by decide) hr
theorem raisS_some (n : Nat) : ∀ {a b c d : Int} {A B C D : Int}, vr a b c d = true → rais n a b c d = some ⟨A, B, C, D⟩ → raisS n a b c d false = (⟨A, B, C, D⟩, false) ∧ vr A B C D = true := by
  induction n with
  | zero => intro a b c d A B C D h hr; simp only [rais, Option.some.injEq, R4.mk.injEq] at hr; obtain ⟨rfl, rfl, rfl, rfl⟩ := hr; exact ⟨rfl, h⟩
  | succ n ih =>
    intro a b c d A B C D h hr
    rw [rais] at hr
    split at hr
    · rename_i hv
      obtain ⟨h1, h2⟩ := ih hv hr
      exact ⟨by rw [raisS, if_pos hv]; exact h1, h2⟩
    · cases hr
theorem raisS_none (n : Nat) : ∀ {a b c d : Int}, vr a b c d = true → rais n a b c d = none → ∃ A B C D : Int, raisS n a b c d false = (⟨A, B, C, D⟩, true) ∧ vr A B C D = true := by
  induction n with
  | zero => intro a b c d h hr; cases hr
  | succ n ih =>
    intro a b c d h hr
    rw [rais] at hr
    split at hr
    · rename_i hv
      obtain ⟨A, B, C, D, h1, h2⟩ := ih hv hr
      exact ⟨A, B, C, D, by rw [raisS, if_pos hv]; exact h1, h2⟩
    · rename_i hv
      rcases hq : raisS n 0 0 0 0 true with ⟨⟨A, B, C, D⟩, z⟩
      obtain ⟨h1, h2⟩ := raisS_bad n (by decide) hq
      exact ⟨A, B, C, D, by rw [raisS, if_neg hv, hq, h1], h2⟩
end Go.Proofs.Ytncgccpkbneagaa.RM
