/- Contracts of RealSign and its model. -/
import Derived.Test.YtefmglofnoinmaaDyA
import Derived.Deep.LoopGhost
namespace Go.Proofs.Ytefmglofnoinmaa
open Go.RowKit RM
set_option linter.unusedVariables false
set_option linter.unusedSimpArgs false
attribute [local irreducible] World.setCell
/-- the square with the sign of the number; the sign -/
def ssq (u : Int) : Int := if u < 0 then -(u * u) else u * u
def sgn (x : Int) : Int := if x < 0 then -1 else if 0 < x then 1 else 0
abbrev vp (u v : Int) : Bool := vr u v 0 0
theorem vp_iff {u v : Int} : vp u v = true ↔ (-1000000000 ≤ u ∧ u ≤ 1000000000) ∧ (-1000000000 ≤ v ∧ v ≤ 1000000000) := by
  unfold vp; rw [vr_iff]; omega
theorem ssq_bd {u : Int} (h : -1000000000 ≤ u ∧ u ≤ 1000000000) : -1000000000000000000 ≤ ssq u ∧ ssq u ≤ 1000000000000000000 := by
  have := mul_bd h h
  unfold ssq; split <;> omega
set_option maxRecDepth 100000 in
set_option maxHeartbeats 1000000 in
theorem sq_c (u : Int) (w : World) (h : -1000000000 ≤ u ∧ u ≤ 1000000000) :
    Calls Try.prog 97 #[.int .i64 u] w fun ee w' => ee = .returned (.int .i64 (ssq u)) ∧ Below w.heap.size w w' := by
  obtain ⟨m1, m2⟩ := mul_bd h h
  obtain ⟨h1, h2⟩ := h
  have e : -u * u = -(u * u) := Int.neg_mul _ _
  by_cases hu : u < 0
  · have hs : ssq u = -(u * u) := if_pos hu
    go_enter Try.func97, Try.ntmps97
    go_wp2
    go_ret
    exact ⟨by simp [hs], Below.refl _ _⟩
  · have hs : ssq u = u * u := if_neg hu
    go_enter Try.func97, Try.ntmps97
    go_wp2
    go_ret
    exact ⟨by simp [hs], Below.refl _ _⟩
set_option maxRecDepth 100000 in
set_option maxHeartbeats 1000000 in
theorem cmp_c (x : Int) (w : World) :
    Calls Try.prog 96 #[.int .i64 x, .int .i64 0] w fun ee w' => ee = .returned (.int .i64 (sgn x)) ∧ Below w.heap.size w w' := by
  by_cases h0 : x < 0
  · have hs : sgn x = -1 := if_pos h0
    go_enter Try.func96, Try.ntmps96
    go_wp2_with (first | go_in)
    go_ret
    exact ⟨by simp [hs], Below.refl _ _⟩
  · by_cases h1 : 0 < x
    · have hs : sgn x = 1 := by unfold sgn; rw [if_neg h0, if_pos h1]
      go_enter Try.func96, Try.ntmps96
      go_wp2_with (first | go_in)
      go_ret
      exact ⟨by simp [hs], Below.refl _ _⟩
    · have hs : sgn x = 0 := by unfold sgn; rw [if_neg h0, if_neg h1]
      go_enter Try.func96, Try.ntmps96
      go_wp2_with (first | go_in)
      go_ret
      exact ⟨by simp [hs], Below.refl _ _⟩
set_option maxRecDepth 100000 in
set_option maxHeartbeats 2000000 in
theorem l2s (u v : Int) (w : World) (h : vp u v = true) :
    Calls Try.prog 95 #[.int .i64 u, .int .i64 v] w fun ee w' => ee = .returned (.int .i64 (sgn (ssq u + 2 * ssq v))) ∧ Below w.heap.size w w' := by
  obtain ⟨hu, hv⟩ := vp_iff.1 h
  obtain ⟨m1, m2⟩ := mul_bd hu hu
  obtain ⟨n1, n2⟩ := mul_bd hv hv
  have e : 2 * v * v = 2 * (v * v) := Int.mul_assoc _ _ _
  have su : u ≠ 0 → 0 < u * u := fun h => sq_pos h
  have sv : v ≠ 0 → 0 < v * v := fun h => sq_pos h
  have zu : 0 ≤ u * u := sq_nonneg u
  have zv : 0 ≤ v * v := sq_nonneg v
  have du : u < 0 ∧ ssq u = -(u * u) ∨ 0 ≤ u ∧ ssq u = u * u := by unfold ssq; split <;> omega
  have dv : v < 0 ∧ ssq v = -(v * v) ∨ 0 ≤ v ∧ ssq v = v * v := by unfold ssq; split <;> omega
  obtain ⟨S, hS⟩ : ∃ S, sgn (ssq u + 2 * ssq v) = S := ⟨_, rfl⟩
  have dS : ssq u + 2 * ssq v < 0 ∧ S = -1 ∨ 0 < ssq u + 2 * ssq v ∧ S = 1 ∨ ssq u + 2 * ssq v = 0 ∧ S = 0 := by
    subst hS; unfold sgn; split
    · left; exact ⟨by assumption, rfl⟩
    · split
      · right; left; exact ⟨by assumption, rfl⟩
      · right; right; exact ⟨by omega, rfl⟩
  have z1 : u = 0 → u * u = 0 := fun h => by rw [h]; rfl
  have z2 : v = 0 → v * v = 0 := fun h => by rw [h]; rfl
  rw [hS]
  have HD := hid (And.intro du (And.intro dv (And.intro dS (And.intro su (And.intro sv (And.intro zu (And.intro zv (And.intro z1 z2))))))))
  clear hS du dv dS su sv zu zv z1 z2 h
  obtain ⟨u1, u2⟩ := hu
  obtain ⟨v1, v2⟩ := hv
  go_enter Try.func95, Try.ntmps95
  go_wp2
  all_goals (go_ret; refine ⟨?_, Below.refl _ _⟩)
  all_goals (obtain ⟨du, dv, dS, su, sv, zu, zv, z1, z2⟩ := HD.out; simp at *; omega)
end Go.Proofs.Ytefmglofnoinmaa
