/- Plain arithmetic for chapter 2: a lowest form is one alone. No Go in sight. -/
import Derived.Test.YtefmglofnoinmaaProd
import Derived.Test.YtefmglofnoinmaaMathD
namespace Go.Proofs.Ytefmglofnoinmaa.RM
set_option linter.unusedVariables false
/-- times the square root of 2 -/
def up (x : R4) : R4 := ⟨x.b - x.d, x.a + x.c, x.b + x.d, x.c - x.a⟩
def ups : Nat → R4 → R4
  | 0, x => x
  | n + 1, x => ups n (up x)
def add4 (x y : R4) : R4 := ⟨x.a + y.a, x.b + y.b, x.c + y.c, x.d + y.d⟩
def neg4 (x : R4) : R4 := ⟨-x.a, -x.b, -x.c, -x.d⟩
def mul4 (x y : R4) : R4 := ⟨m0 x.a x.b x.c x.d y.a y.b y.c y.d, m1 x.a x.b x.c x.d y.a y.b y.c y.d, m2 x.a x.b x.c x.d y.a y.b y.c y.d, m3 x.a x.b x.c x.d y.a y.b y.c y.d⟩
theorem R4.ext' {x y : R4} (h0 : x.a = y.a) (h1 : x.b = y.b) (h2 : x.c = y.c) (h3 : x.d = y.d) : x = y := by
  cases x; cases y; simp_all
theorem up_inj {x y : R4} (h : up x = up y) : x = y := by
  simp only [up, R4.mk.injEq] at h
  obtain ⟨h0, h1, h2, h3⟩ := h
  exact R4.ext' (by omega) (by omega) (by omega) (by omega)
theorem ups_inj (n : Nat) : ∀ {x y : R4}, ups n x = ups n y → x = y := by
  induction n with
  | zero => intro x y h; exact h
  | succ n ih => intro x y h; exact up_inj (ih h)
theorem ups_add (n m : Nat) : ∀ x : R4, ups (n + m) x = ups m (ups n x) := by
  induction n with
  | zero => intro x; rw [Nat.zero_add]; rfl
  | succ n ih => intro x; rw [Nat.succ_add]; exact ih (up x)
theorem up_add4 (x y : R4) : up (add4 x y) = add4 (up x) (up y) := by
  simp only [up, add4]; exact R4.ext' (by simp only []; omega) (by simp only []; omega) (by simp only []; omega) (by simp only []; omega)
theorem ups_add4 (n : Nat) : ∀ x y : R4, ups n (add4 x y) = add4 (ups n x) (ups n y) := by
  induction n with
  | zero => intro x y; rfl
  | succ n ih => intro x y; show ups n (up _) = _; rw [up_add4, ih]; rfl
theorem up_neg4 (x : R4) : up (neg4 x) = neg4 (up x) := by
  simp only [up, neg4]; exact R4.ext' (by simp only []; omega) (by simp only []; omega) (by simp only []; omega) (by simp only []; omega)
theorem ups_neg4 (n : Nat) : ∀ x : R4, ups n (neg4 x) = neg4 (ups n x) := by
  induction n with
  | zero => intro x; rfl
  | succ n ih => intro x; show ups n (up _) = _; rw [up_neg4, ih]; rfl
theorem up_mul4 (x y : R4) : mul4 (up x) y = up (mul4 x y) := by
  simp only [up, mul4, m0, m1, m2, m3]; exact R4.ext' (by simp only []; grind) (by simp only []; grind) (by simp only []; grind) (by simp only []; grind)
theorem ups_mul4 (n : Nat) : ∀ x y : R4, mul4 (ups n x) y = ups n (mul4 x y) := by
  induction n with
  | zero => intro x y; rfl
  | succ n ih => intro x y; show mul4 (ups n (up x)) y = ups n (up _); rw [ih, up_mul4]
theorem mul4_comm (x y : R4) : mul4 x y = mul4 y x := by
  simp only [mul4, m0, m1, m2, m3]; exact R4.ext' (by simp only []; grind) (by simp only []; grind) (by simp only []; grind) (by simp only []; grind)
theorem add4_comm (x y : R4) : add4 x y = add4 y x := by
  simp only [add4]; exact R4.ext' (by simp only []; omega) (by simp only []; omega) (by simp only []; omega) (by simp only []; omega)
theorem mul4_add4 (x y z : R4) : mul4 (add4 x y) z = add4 (mul4 x z) (mul4 y z) := by
  simp only [mul4, add4, m0, m1, m2, m3]; exact R4.ext' (by simp only []; grind) (by simp only []; grind) (by simp only []; grind) (by simp only []; grind)
theorem add4_sub (x y : R4) : add4 (add4 x y) (neg4 y) = x := by
  simp only [add4, neg4]; exact R4.ext' (by simp only []; omega) (by simp only []; omega) (by simp only []; omega) (by simp only []; omega)
theorem mul_ups (n m : Nat) (x y : R4) : mul4 (ups n x) (ups m y) = ups (n + m) (mul4 x y) := by
  rw [ups_mul4, mul4_comm, ups_mul4, mul4_comm, Nat.add_comm, ups_add]
/-- a lowest form -/
def lw (x : R4) (e : Nat) : Prop := e = 0 ∨ ev2 x.a x.b x.c x.d = false
theorem tm2' (x : Int) : (x.tmod 2 == 0) = true ↔ x % 2 = 0 := by
  rw [beq_iff_eq, ← Int.dvd_iff_tmod_eq_zero]; omega
theorem ev2_up (x : R4) : ev2 (up x).a (up x).b (up x).c (up x).d = true := by
  simp only [up, ev2, Bool.and_eq_true, tm2']; omega
theorem up_half {a b c d : Int} (h : ev2 a b c d = true) : up ⟨(b - d).tdiv 2, (a + c).tdiv 2, (b + d).tdiv 2, (c - a).tdiv 2⟩ = ⟨a, b, c, d⟩ := by
  simp only [ev2, Bool.and_eq_true, tm2'] at h
  obtain ⟨h0, h1⟩ := h
  have k0 : 2 * (b - d).tdiv 2 = b - d := Int.mul_tdiv_cancel' (by omega)
  have k1 : 2 * (a + c).tdiv 2 = a + c := Int.mul_tdiv_cancel' (by omega)
  have k2 : 2 * (b + d).tdiv 2 = b + d := Int.mul_tdiv_cancel' (by omega)
  have k3 : 2 * (c - a).tdiv 2 = c - a := Int.mul_tdiv_cancel' (by omega)
  simp only [up]; exact R4.ext' (by simp only []; omega) (by simp only []; omega) (by simp only []; omega) (by simp only []; omega)
/-- the lowest form has the same value -/
theorem low_ups (e : Nat) : ∀ {a b c d A B C D : Int} {E : Nat}, low e a b c d = ⟨A, B, C, D, E⟩ → E ≤ e ∧ ups (e - E) ⟨A, B, C, D⟩ = ⟨a, b, c, d⟩ ∧ lw ⟨A, B, C, D⟩ E := by
  induction e with
  | zero => intro a b c d A B C D E hl; simp only [low, Dy.mk.injEq] at hl; obtain ⟨rfl, rfl, rfl, rfl, rfl⟩ := hl; exact ⟨Nat.le_refl _, rfl, Or.inl rfl⟩
  | succ e ih =>
    intro a b c d A B C D E hl
    rw [low] at hl
    split at hl
    · rename_i hv
      obtain ⟨h1, h2, h3⟩ := ih hl
      refine ⟨by omega, ?_, h3⟩
      rw [show e + 1 - E = (e - E) + 1 by omega, ups_add, h2]
      exact up_half hv
    · rename_i hn
      simp only [Dy.mk.injEq] at hl
      obtain ⟨rfl, rfl, rfl, rfl, rfl⟩ := hl
      exact ⟨Nat.le_refl _, by rw [Nat.sub_self]; rfl, Or.inr (by simpa using hn)⟩
theorem lw_uniq' {x y : R4} {e f N : Nat} (hx : lw x e) (hy : lw y f) (hef : e ≤ f) (hf : f ≤ N) (h : ups (N - e) x = ups (N - f) y) : x = y ∧ e = f := by
  rw [show N - e = (f - e) + (N - f) by omega, ups_add] at h
  have h1 := ups_inj _ h
  by_cases hne : e = f
  · subst hne; rw [Nat.sub_self] at h1; exact ⟨h1, rfl⟩
  · exfalso
    obtain ⟨k, hk⟩ : ∃ k, f - e = k + 1 := ⟨f - e - 1, by omega⟩
    rw [hk, ups_add] at h1
    have h2 : up (ups k x) = y := h1
    have := ev2_up (ups k x)
    rw [h2] at this
    rcases hy with h0 | h0
    · omega
    · rw [this] at h0; cases h0
theorem lw_uniq {x y : R4} {e f N : Nat} (hx : lw x e) (hy : lw y f) (he : e ≤ N) (hf : f ≤ N) (h : ups (N - e) x = ups (N - f) y) : x = y ∧ e = f := by
  by_cases hef : e ≤ f
  · exact lw_uniq' hx hy hef hf h
  · obtain ⟨h1, h2⟩ := lw_uniq' hy hx (by omega) he h.symm
    exact ⟨h1.symm, h2.symm⟩
/-- what 'rais' gives is the number raised -/
theorem rais_ups (n : Nat) : ∀ {a b c d A B C D : Int}, rais n a b c d = some ⟨A, B, C, D⟩ → ups n ⟨a, b, c, d⟩ = ⟨A, B, C, D⟩ := by
  induction n with
  | zero => intro a b c d A B C D h; simpa [rais, ups] using h
  | succ n ih =>
    intro a b c d A B C D h
    rw [rais] at h
    split at h
    · exact ih h
    · cases h
end Go.Proofs.Ytefmglofnoinmaa.RM
