/- Plain arithmetic for chapter 2: lowest forms. No Go in sight. -/
import Derived.Test.YtofclfgaekjonaaMath
namespace Go.Proofs.Ytofclfgaekjonaa.RM
/-- four numbers and an exponent -/
structure Dy where
  a : Int
  b : Int
  c : Int
  d : Int
  e : Nat
/-- divisible by the square root of 2 -/
def ev2 (a b c d : Int) : Bool := ((a + c).tmod 2 == 0) && ((b + d).tmod 2 == 0)
/-- the lowest form -/
def low : Nat → Int → Int → Int → Int → Dy
  | 0, a, b, c, d => ⟨a, b, c, d, 0⟩
  | e + 1, a, b, c, d => if ev2 a b c d then low e ((b - d).tdiv 2) ((a + c).tdiv 2) ((b + d).tdiv 2) ((c - a).tdiv 2) else ⟨a, b, c, d, e + 1⟩
theorem td2' (x : Int) : 2 * (x.tdiv 2).natAbs ≤ x.natAbs := by
  rw [Int.natAbs_tdiv]; show 2 * (x.natAbs / 2) ≤ _; omega
theorem vr_half {a b c d : Int} (h : vr a b c d = true) : vr ((b - d).tdiv 2) ((a + c).tdiv 2) ((b + d).tdiv 2) ((c - a).tdiv 2) = true := by
  rw [vr_iff] at *
  have h1 := td2' (b - d)
  have h2 := td2' (a + c)
  have h3 := td2' (b + d)
  have h4 := td2' (c - a)
  omega
theorem low_vr (e : Nat) : ∀ {a b c d : Int} {A B C D : Int} {E : Nat}, vr a b c d = true → low e a b c d = ⟨A, B, C, D, E⟩ → vr A B C D = true ∧ E ≤ e ∧ (E = 0 ∨ ev2 A B C D = false) := by
  induction e with
  | zero => intro a b c d A B C D E h hl; simp only [low, Dy.mk.injEq] at hl; obtain ⟨rfl, rfl, rfl, rfl, rfl⟩ := hl; exact ⟨h, Nat.le_refl _, Or.inl rfl⟩
  | succ e ih =>
    intro a b c d A B C D E h hl
    rw [low] at hl
    split at hl
    · obtain ⟨h1, h2, h3⟩ := ih (vr_half h) hl
      exact ⟨h1, by omega, h3⟩
    · rename_i hn
      simp only [Dy.mk.injEq] at hl
      obtain ⟨rfl, rfl, rfl, rfl, rfl⟩ := hl
      exact ⟨h, Nat.le_refl _, Or.inr (by simpa using hn)⟩
theorem low_fix {e : Nat} {a b c d : Int} (h : e = 0 ∨ ev2 a b c d = false) : low e a b c d = ⟨a, b, c, d, e⟩ := by
  cases e with
  | zero => rfl
  | succ e => rw [low, if_neg (by simpa using h)]
/-- a dyadic number that is valid -/
def vd (a b c d : Int) (e : Nat) : Bool := vr a b c d && decide (e ≤ 60) && (decide (e = 0) || !ev2 a b c d)
theorem vd_iff {a b c d : Int} {e : Nat} : vd a b c d e = true ↔ vr a b c d = true ∧ e ≤ 60 ∧ (e = 0 ∨ ev2 a b c d = false) := by
  unfold vd; simp [and_assoc]
theorem low_vd {e : Nat} {a b c d A B C D : Int} {E : Nat} (hx : vr a b c d = true) (he : e ≤ 60) (hl : low e a b c d = ⟨A, B, C, D, E⟩) : vd A B C D E = true := by
  obtain ⟨h1, h2, h3⟩ := low_vr e hx hl
  exact vd_iff.2 ⟨h1, by omega, h3⟩
theorem low_ne {e : Nat} {a b c d A B C D : Int} {E : Nat} (hx : vr a b c d = true) (h : ¬ (e = 0 ∨ ev2 a b c d = false)) (hl : low e a b c d = ⟨A, B, C, D, E⟩) : E ≠ e := by
  cases e with
  | zero => exact absurd (Or.inl rfl) h
  | succ e =>
    rw [low, if_pos (by simp at h; exact h)] at hl
    have := (low_vr e (vr_half hx) hl).2.1
    omega
/-- four numbers -/
structure R4 where
  a : Int
  b : Int
  c : Int
  d : Int
/-- raise n times by the square root of 2, as the program does: stops at the first that is not valid -/
def rais : Nat → Int → Int → Int → Int → Option R4
  | 0, a, b, c, d => some ⟨a, b, c, d⟩
  | n + 1, a, b, c, d => if vr (b - d) (a + c) (b + d) (c - a) then rais n (b - d) (a + c) (b + d) (c - a) else none
/-- the same as the model does: goes on with zero and remembers -/
def raisS : Nat → Int → Int → Int → Int → Bool → R4 × Bool
  | 0, a, b, c, d, z => (⟨a, b, c, d⟩, z)
  | n + 1, a, b, c, d, z => if vr (b - d) (a + c) (b + d) (c - a) then raisS n (b - d) (a + c) (b + d) (c - a) z else raisS n 0 0 0 0 true
theorem raisS_bad (n : Nat) : ∀ {a b c d : Int} {A B C D : Int} {z : Bool}, vr a b c d = true → raisS n a b c d true = (⟨A, B, C, D⟩, z) → z = true ∧ vr A B C D = true := by
  induction n with
  | zero => intro a b c d A B C D z h hr; simp only [raisS, Prod.mk.injEq, R4.mk.injEq] at hr; obtain ⟨⟨rfl, rfl, rfl, rfl⟩, rfl⟩ := hr; exact ⟨rfl, h⟩
  | succ n ih =>
    intro a b c d A B C D z h hr
    rw [raisS] at hr
    split at hr
    · rename_i hv; exact ih hv hr
    · exact ih (by decide) hr
theorem raisS_some (n : Nat) : ∀ {a b c d : Int} {A B C D : Int}, vr a b c d = true → rais n a b c d = some ⟨A, B, C, D⟩ → raisS n a b c d false = (⟨A, B, C, D⟩, false) ∧ vr A B C D = true := by
  induction n with
  | zero => intro a b c d A B C D h hr; simp only [rais, Option.some.injEq, R4.mk.injEq] at hr; obtain ⟨rfl, rfl, rfl, rfl⟩ := hr; exact ⟨rfl, h⟩
  | succ n ih =>
    intro a b c d A B C D h hr
    rw [rais] at hr
    split at hr
    · rename_i hv
      obtain ⟨h1, h2⟩ := ih hv hr
      exact ⟨by rw [raisS, if_pos hv]; exact h1, h2⟩
    · cases hr
theorem raisS_none (n : Nat) : ∀ {a b c d : Int}, vr a b c d = true → rais n a b c d = none → ∃ A B C D : Int, raisS n a b c d false = (⟨A, B, C, D⟩, true) ∧ vr A B C D = true := by
  induction n with
  | zero => intro a b c d h hr; cases hr
  | succ n ih =>
    intro a b c d h hr
    rw [rais] at hr
    split at hr
    · rename_i hv
      obtain ⟨A, B, C, D, h1, h2⟩ := ih hv hr
      exact ⟨A, B, C, D, by rw [raisS, if_pos hv]; exact h1, h2⟩
    · rename_i hv
      rcases hq : raisS n 0 0 0 0 true with ⟨⟨A, B, C, D⟩, z⟩
      obtain ⟨h1, h2⟩ := raisS_bad n (by decide) hq
      exact ⟨A, B, C, D, by rw [raisS, if_neg hv, hq, h1], h2⟩
end Go.Proofs.Ytofclfgaekjonaa.RM
