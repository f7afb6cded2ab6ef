/- Norms, quotients and roots of any numbers of the ring: the contracts, and what they say. -/
import Derived.Test.YtefmglofnoinmaaLawZ
import Derived.Test.YtefmglofnoinmaaNorm
import Derived.Test.YtefmglofnoinmaaAbsI
import Derived.Test.YtefmglofnoinmaaAbsS
import Derived.Test.YtefmglofnoinmaaDivI
import Derived.Test.YtefmglofnoinmaaDivJ
import Derived.Test.YtefmglofnoinmaaLowI
import Derived.Test.YtefmglofnoinmaaRootA
import Derived.Deep.LoopGhost
import Derived.Test.YtefmglofnoinmaaHeldB
import Derived.Deep.RegionHeld3
import Derived.Deep.MidRow
import Derived.Deep.DeepCutAuto
import Derived.Deep.RegionWith
import Derived.Deep.DeepCutAuto
namespace Go.Proofs.Ytefmglofnoinmaa
open Go.RowKit RM
set_option linter.unusedVariables false
set_option linter.unusedSimpArgs false
attribute [local irreducible] World.setCell

theorem abs_all (a b c d : Int) : ∃ (u v : Int) (ok : Bool), (∀ w : World, Calls Try.prog 26 #[rg a b c d] w fun ee w' => ee = .returned (.tuple #[.int .i64 u, .int .i64 v, .bool ok]) ∧ Below w.heap.size w w') ∧ (∀ w : World, Calls Try.prog 75 #[rg a b c d] w fun ee w' => ee = .returned (.tuple #[.int .i64 u, .int .i64 v, .bool ok]) ∧ Below w.heap.size w w') ∧ (-1000000000 ≤ u ∧ u ≤ 1000000000) ∧ (-1000000000 ≤ v ∧ v ≤ 1000000000) ∧ (ok = true → vr a b c d = true ∧ u = uu a b c d ∧ v = vv a b c d) ∧ (ok = false → u = 0 ∧ v = 0) := by
  cases hx : vr a b c d
  · exact ⟨0, 0, false, fun w => abs_i_f _ _ _ _ w hx, fun w => abs_s_f _ _ _ _ w hx, by decide, by decide, fun h => (by cases h), fun _ => ⟨rfl, rfl⟩⟩
  · cases hv : vr (uu a b c d) (vv a b c d) 0 (-vv a b c d)
    · exact ⟨0, 0, false, fun w => abs_i_o _ _ _ _ w hx hv, fun w => abs_s_o _ _ _ _ w hx hv, by decide, by decide, fun h => (by cases h), fun _ => ⟨rfl, rfl⟩⟩
    · obtain ⟨hu, hv2⟩ := uv_iff.1 hv
      exact ⟨_, _, true, fun w => abs_i_t _ _ _ _ w hx hv, fun w => abs_s_t _ _ _ _ w hx hv, hu, hv2, fun _ => ⟨rfl, rfl, rfl⟩, fun h => by cases h⟩

theorem norm_id (a b c d : Int) : uu a b c d * uu a b c d - 2 * vv a b c d * vv a b c d = (a * a - c * c + 2 * (b * d)) * (a * a - c * c + 2 * (b * d)) + (2 * (a * c) - b * b + d * d) * (2 * (a * c) - b * b + d * d) := by
  unfold uu vv; grind
theorem norm_nn (a b c d : Int) : 0 ≤ uu a b c d * uu a b c d - 2 * vv a b c d * vv a b c d := by
  rw [norm_id]
  have h1 := sq_nonneg (a * a - c * c + 2 * (b * d))
  have h2 := sq_nonneg (2 * (a * c) - b * b + d * d)
  omega
theorem norm_all (a b c d : Int) : ∃ (n : Int) (ok : Bool), (∀ w : World, Calls Try.prog 31 #[rg a b c d] w fun ee w' => ee = .returned (.tuple #[.int .i64 n, .bool ok]) ∧ Below w.heap.size w w') ∧ (∀ w : World, Calls Try.prog 32 #[rg a b c d] w fun ee w' => ee = .returned (.tuple #[.int .i64 n, .bool ok]) ∧ Below w.heap.size w w') ∧ 0 ≤ n := by
  obtain ⟨u, v, ok, h1, h2, hu, hv, h3, h4⟩ := abs_all a b c d
  cases ok
  · obtain ⟨rfl, rfl⟩ := h4 rfl
    exact ⟨0, false, fun w => norm_i_z _ _ _ _ h1 w, fun w => norm_s_z _ _ _ _ h2 w, by decide⟩
  · obtain ⟨_, rfl, rfl⟩ := h3 rfl
    exact ⟨_, true, fun w => norm_i_t _ _ _ _ _ _ h1 hu hv w, fun w => norm_s_t _ _ _ _ _ _ h2 hu hv w, norm_nn a b c d⟩
theorem uu_mul (x y : R4) : uu (mul4 x y).a (mul4 x y).b (mul4 x y).c (mul4 x y).d = uu x.a x.b x.c x.d * uu y.a y.b y.c y.d + 2 * vv x.a x.b x.c x.d * vv y.a y.b y.c y.d := by
  simp only [mul4, m0, m1, m2, m3, uu, vv]; grind
theorem vv_mul (x y : R4) : vv (mul4 x y).a (mul4 x y).b (mul4 x y).c (mul4 x y).d = uu x.a x.b x.c x.d * vv y.a y.b y.c y.d + vv x.a x.b x.c x.d * uu y.a y.b y.c y.d := by
  simp only [mul4, m0, m1, m2, m3, uu, vv]; grind
theorem mul4_assoc (x y z : R4) : mul4 (mul4 x y) z = mul4 x (mul4 y z) := by
  simp only [mul4, m0, m1, m2, m3]; exact R4.ext' (by simp only []; grind) (by simp only []; grind) (by simp only []; grind) (by simp only []; grind)
theorem inv_mul (y : R4) : mul4 (mul4 y (cj4 y)) ⟨uu y.a y.b y.c y.d, -vv y.a y.b y.c y.d, 0, vv y.a y.b y.c y.d⟩ = ⟨uu y.a y.b y.c y.d * uu y.a y.b y.c y.d - 2 * vv y.a y.b y.c y.d * vv y.a y.b y.c y.d, 0, 0, 0⟩ := by
  simp only [mul4, cj4, m0, m1, m2, m3, uu, vv]; exact R4.ext' (by simp only []; grind) (by simp only []; grind) (by simp only []; grind) (by simp only []; grind)
theorem mul4_int (x : R4) (n : Int) : mul4 x ⟨n, 0, 0, 0⟩ = ⟨x.a * n, x.b * n, x.c * n, x.d * n⟩ := by
  simp only [mul4, m0, m1, m2, m3]; exact R4.ext' (by simp only []; grind) (by simp only []; grind) (by simp only []; grind) (by simp only []; grind)

theorem quo_ok2 {g0 g1 g2 g3 n : Int} (h : vr g0 g1 g2 g3 = true) : vr (g0.tdiv n) (g1.tdiv n) (g2.tdiv n) (g3.tdiv n) = true := by
  obtain ⟨h0, h1, h2, h3⟩ := vr_iff.1 h
  exact vr_iff.2 ⟨tdiv_bd h0, tdiv_bd h1, tdiv_bd h2, tdiv_bd h3⟩
theorem tdiv_mul {g n : Int} (h : (g.tmod n == 0) = true) : g.tdiv n * n = g := by
  rw [Int.mul_comm]; exact Int.mul_tdiv_cancel' (Int.dvd_of_tmod_eq_zero (by simpa using h))
theorem div_all (a b c d p q r s : Int) : ∃ (z0 z1 z2 z3 : Int) (ok : Bool), (∀ w : World, Calls Try.prog 27 #[rg a b c d, rg p q r s] w fun ee w' => ee = .returned (rt z0 z1 z2 z3 ok) ∧ Below w.heap.size w w') ∧
    (ok = true → (uu p q r s * uu p q r s - 2 * vv p q r s * vv p q r s) ≠ 0 ∧ (⟨z0 * (uu p q r s * uu p q r s - 2 * vv p q r s * vv p q r s), z1 * (uu p q r s * uu p q r s - 2 * vv p q r s * vv p q r s), z2 * (uu p q r s * uu p q r s - 2 * vv p q r s * vv p q r s), z3 * (uu p q r s * uu p q r s - 2 * vv p q r s * vv p q r s)⟩ : R4) = mul4 (mul4 ⟨a, b, c, d⟩ (cj4 ⟨p, q, r, s⟩)) ⟨uu p q r s, -vv p q r s, 0, vv p q r s⟩) := by
  obtain ⟨u, v, ok, hI, _, hu, hv, h3, h4⟩ := abs_all p q r s
  cases ok
  · obtain ⟨rfl, rfl⟩ := h4 rfl
    exact ⟨0, 0, 0, 0, false, fun w => div_i_0 _ _ _ _ _ _ _ _ w hI, fun h => by cases h⟩
  · obtain ⟨hy, rfl, rfl⟩ := h3 rfl
    by_cases h0 : p = 0 ∧ q = 0 ∧ r = 0 ∧ s = 0
    · obtain ⟨rfl, rfl, rfl, rfl⟩ := h0
      have e1 : uu 0 0 0 0 = 0 := by simp [uu]
      have e2 : vv 0 0 0 0 = 0 := by simp [vv]
      rw [e1, e2] at hI
      exact ⟨0, 0, 0, 0, false, fun w => div_i_1 _ _ _ _ w hI, fun h => by cases h⟩
    · have hne : (p == 0 && (q == 0 && (r == 0 && s == 0))) = false := by
        rw [Bool.eq_false_iff]
        intro h
        simp only [Bool.and_eq_true, beq_iff_eq] at h
        exact h0 h
      have hup : 0 < uu p q r s := by
        unfold uu
        refine sum4_pos ?_
        by_cases z0 : p = 0
        · by_cases z1 : q = 0
          · by_cases z2 : r = 0
            · by_cases z3 : s = 0
              · exact absurd ⟨z0, z1, z2, z3⟩ h0
              · exact .inr (.inr (.inr z3))
            · exact .inr (.inr (.inl z2))
          · exact .inr (.inl z1)
        · exact .inl z0
      have hn : (uu p q r s * uu p q r s - 2 * vv p q r s * vv p q r s) ≠ 0 := by
        have h := root_ne (u := uu p q r s) (v := vv p q r s) (by omega)
        rwa [← Int.mul_assoc] at h
      rcases hq1 : mv ⟨a, b, c, d⟩ ⟨p, -s, -r, -q⟩ with ⟨⟨e0, e1, e2, e3⟩, k1⟩
      have mI := fun w => mul_d a b c d p (-s) (-r) (-q) e0 e1 e2 e3 k1 w hq1
      cases k1
      · have hz : e0 = 0 ∧ e1 = 0 ∧ e2 = 0 ∧ e3 = 0 := by
          unfold mv at hq1; split at hq1
          · simp at hq1
          · simp only [Prod.mk.injEq, R4.mk.injEq] at hq1; omega
        obtain ⟨rfl, rfl, rfl, rfl⟩ := hz
        exact ⟨0, 0, 0, 0, false, fun w => div_i_2 _ _ _ _ _ _ _ _ _ _ w hne hI hy mI, fun h => by cases h⟩
      · rcases hq2 : mv ⟨e0, e1, e2, e3⟩ ⟨uu p q r s, -vv p q r s, 0, vv p q r s⟩ with ⟨⟨g0, g1, g2, g3⟩, k2⟩
        have kI := fun w => mul_d e0 e1 e2 e3 (uu p q r s) (-vv p q r s) 0 (vv p q r s) g0 g1 g2 g3 k2 w hq2
        cases k2
        · have hz : g0 = 0 ∧ g1 = 0 ∧ g2 = 0 ∧ g3 = 0 := by
            unfold mv at hq2; split at hq2
            · simp at hq2
            · simp only [Prod.mk.injEq, R4.mk.injEq] at hq2; omega
          obtain ⟨rfl, rfl, rfl, rfl⟩ := hz
          exact ⟨0, 0, 0, 0, false, fun w => div_i_3 _ _ _ _ _ _ _ _ _ _ _ _ _ _ w hu hv hne hI hy mI kI, fun h => by cases h⟩
        · obtain ⟨_, _, hg, heq2⟩ := mv_ok hq2
          obtain ⟨_, _, _, heq1⟩ := mv_ok hq1
          cases hrem : (g0.tmod (uu p q r s * uu p q r s - 2 * vv p q r s * vv p q r s) == 0 && (g1.tmod (uu p q r s * uu p q r s - 2 * vv p q r s * vv p q r s) == 0 && (g2.tmod (uu p q r s * uu p q r s - 2 * vv p q r s * vv p q r s) == 0 && g3.tmod (uu p q r s * uu p q r s - 2 * vv p q r s * vv p q r s) == 0)))
          · exact ⟨0, 0, 0, 0, false, fun w => div_i_4 _ _ _ _ _ _ _ _ _ _ _ _ _ _ _ _ _ _ w hu hv hne hg hI hy mI kI hn hrem, fun h => by cases h⟩
          · refine ⟨_, _, _, _, true, fun w => div_i_5 _ _ _ _ _ _ _ _ _ _ _ _ _ _ _ _ _ _ w hu hv hne hg hI hy mI kI hn hrem (quo_ok2 hg), fun _ => ⟨hn, ?_⟩⟩
            simp only [Bool.and_eq_true] at hrem
            rw [tdiv_mul hrem.1, tdiv_mul hrem.2.1, tdiv_mul hrem.2.2.1, tdiv_mul hrem.2.2.2, heq2, heq1]
            rfl
theorem div_eq {x y z : R4} (hn : uu y.a y.b y.c y.d * uu y.a y.b y.c y.d - 2 * vv y.a y.b y.c y.d * vv y.a y.b y.c y.d ≠ 0) (h : (⟨z.a * (uu y.a y.b y.c y.d * uu y.a y.b y.c y.d - 2 * vv y.a y.b y.c y.d * vv y.a y.b y.c y.d), z.b * (uu y.a y.b y.c y.d * uu y.a y.b y.c y.d - 2 * vv y.a y.b y.c y.d * vv y.a y.b y.c y.d), z.c * (uu y.a y.b y.c y.d * uu y.a y.b y.c y.d - 2 * vv y.a y.b y.c y.d * vv y.a y.b y.c y.d), z.d * (uu y.a y.b y.c y.d * uu y.a y.b y.c y.d - 2 * vv y.a y.b y.c y.d * vv y.a y.b y.c y.d)⟩ : R4) = mul4 (mul4 (mul4 x y) (cj4 y)) ⟨uu y.a y.b y.c y.d, -vv y.a y.b y.c y.d, 0, vv y.a y.b y.c y.d⟩) : z = x := by
  rw [mul4_assoc x y, mul4_assoc x, inv_mul, mul4_int] at h
  simp only [R4.mk.injEq] at h
  obtain ⟨h0, h1, h2, h3⟩ := h
  exact R4.ext' (Int.eq_of_mul_eq_mul_right hn h0) (Int.eq_of_mul_eq_mul_right hn h1) (Int.eq_of_mul_eq_mul_right hn h2) (Int.eq_of_mul_eq_mul_right hn h3)

theorem root_all (a b c d : Int) : ∃ (A B C D : Int) (ok : Bool), (∀ w : World, Calls Try.prog 29 #[rg a b c d] w fun ee w' => ee = .returned (rt A B C D ok) ∧ Below w.heap.size w w') ∧ ∃ (A' B' C' D' : Int) (ok' : Bool), (∀ w : World, Calls Try.prog 30 #[rg A B C D] w fun ee w' => ee = .returned (rt A' B' C' D' ok') ∧ Below w.heap.size w w') ∧ (ok = true → ok' = true ∧ A' = a ∧ B' = b ∧ C' = c ∧ D' = d) := by
  cases hx : vr a b c d
  · exact ⟨0, 0, 0, 0, false, fun w => root_i_f _ _ _ _ w hx, _, _, _, _, true, fun w => di_t w (by decide) (by decide), fun h => by cases h⟩
  · cases hv : vr (b - d) (a + c) (b + d) (c - a)
    · exact ⟨0, 0, 0, 0, false, fun w => root_i_o _ _ _ _ w hx hv, _, _, _, _, true, fun w => di_t w (by decide) (by decide), fun h => by cases h⟩
    · refine ⟨_, _, _, _, true, fun w => root_i_t _ _ _ _ w hx hv, _, _, _, _, true, fun w => di_t w hv (ev2_up ⟨a, b, c, d⟩), fun _ => ⟨rfl, ?_, ?_, ?_, ?_⟩⟩
      · rw [show a + c - (c - a) = 2 * a by omega]; exact Int.mul_tdiv_cancel_left a (by decide)
      · rw [show b - d + (b + d) = 2 * b by omega]; exact Int.mul_tdiv_cancel_left b (by decide)
      · rw [show a + c + (c - a) = 2 * c by omega]; exact Int.mul_tdiv_cancel_left c (by decide)
      · rw [show b + d - (b - d) = 2 * d by omega]; exact Int.mul_tdiv_cancel_left d (by decide)
end Go.Proofs.Ytefmglofnoinmaa
