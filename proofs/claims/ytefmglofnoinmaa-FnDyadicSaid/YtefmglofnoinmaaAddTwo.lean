/- The sum of two dyadic numbers: what the model and the program give. -/
import Derived.Test.YtefmglofnoinmaaAddSt
import Derived.Test.YtefmglofnoinmaaAddSf
import Derived.Test.YtefmglofnoinmaaAddI
import Derived.Test.YtefmglofnoinmaaAddSm
import Derived.Test.YtefmglofnoinmaaSubI
import Derived.Test.YtefmglofnoinmaaMulTwo
import Derived.Deep.LoopGhost
namespace Go.Proofs.Ytefmglofnoinmaa
open Go.RowKit RM
set_option linter.unusedVariables false
set_option linter.unusedSimpArgs false
attribute [local irreducible] World.setCell

theorem ladd_any {a b c d : Int} {e : Nat} {p q r s : Int} {f : Nat} {A B C D P Q R S : Int} {z1 z2 : Bool} (hx : vr a b c d = true) (hy : vr p q r s = true) (he : e ≤ 60) (hf : f ≤ 60) (hr1 : raisS (f - e) a b c d false = (⟨A, B, C, D⟩, z1)) (hr2 : raisS (e - f) p q r s z1 = (⟨P, Q, R, S⟩, z2)) :
    ∃ (L M N O : Int) (E : Nat) (zz : Bool), (∀ (g : Nat) (w : World), w.cell? ⟨g, 0, none⟩ = some (.bool false) → w.frozen? ⟨g, 0, none⟩ = false → Calls Try.prog 86 #[.pointer (some ⟨g, 0, none⟩), dy a b c d (e : Int), dy p q r s (f : Int)] w fun ee w' => ee = .returned (dy L M N O E) ∧ Below w.heap.size (w.setCell ⟨g, 0, none⟩ (.bool zz)) w') ∧ zz = (z2 || !vr (A + P) (B + Q) (C + R) (D + S)) ∧ (vr (A + P) (B + Q) (C + R) (D + S) = true → low (e + (f - e)) (A + P) (B + Q) (C + R) (D + S) = ⟨L, M, N, O, E⟩) := by
  cases hv : vr (A + P) (B + Q) (C + R) (D + S)
  · rcases hl : low (e + (f - e)) 0 0 0 0 with ⟨L, M, N, O, E⟩
    exact ⟨L, M, N, O, E, true, fun g w h0 f0 => ladd_f _ _ _ _ _ _ _ _ _ _ g _ _ _ _ _ _ _ _ _ _ _ _ _ _ _ _ w h0 f0 he hf hx hy hr1 hr2 hv hl, by simp, fun h => by cases h⟩
  · rcases hl : low (e + (f - e)) (A + P) (B + Q) (C + R) (D + S) with ⟨L, M, N, O, E⟩
    exact ⟨L, M, N, O, E, z2, fun g w h0 f0 => ladd_t _ _ _ _ _ _ _ _ _ _ g _ _ _ _ _ _ _ _ _ _ _ _ _ _ _ _ w h0 f0 he hf hx hy hr1 hr2 hv hl, by simp, fun _ => rfl⟩

theorem add_two {a b c d : Int} {e : Nat} {p q r s : Int} {f : Nat} (hx : vd a b c d e = true) (hy : vd p q r s f = true) :
    ∃ (L M N O : Int) (E : Nat) (zz : Bool), (∀ (g : Nat) (w : World), w.cell? ⟨g, 0, none⟩ = some (.bool false) → w.frozen? ⟨g, 0, none⟩ = false → Calls Try.prog 86 #[.pointer (some ⟨g, 0, none⟩), dy a b c d (e : Int), dy p q r s (f : Int)] w fun ee w' => ee = .returned (dy L M N O E) ∧ Below w.heap.size (w.setCell ⟨g, 0, none⟩ (.bool zz)) w') ∧
      ((zz = false ∧ (∃ A B C D P Q R S : Int, rais (f - e) a b c d = some ⟨A, B, C, D⟩ ∧ rais (e - f) p q r s = some ⟨P, Q, R, S⟩ ∧ vr (A + P) (B + Q) (C + R) (D + S) = true ∧ low (e + (f - e)) (A + P) (B + Q) (C + R) (D + S) = ⟨L, M, N, O, E⟩) ∧ ∀ w : World, Calls Try.prog 42 #[dy a b c d (e : Int), dy p q r s (f : Int)] w fun ee w' => ee = .returned (dt L M N O E true) ∧ Below w.heap.size w w') ∨
       (zz = true ∧ (∀ A B C D P Q R S : Int, rais (f - e) a b c d = some ⟨A, B, C, D⟩ → rais (e - f) p q r s = some ⟨P, Q, R, S⟩ → vr (A + P) (B + Q) (C + R) (D + S) = false) ∧ ∀ w : World, Calls Try.prog 42 #[dy a b c d (e : Int), dy p q r s (f : Int)] w fun ee w' => ee = .returned (dt 0 0 0 0 0 false) ∧ Below w.heap.size w w')) := by
  obtain ⟨vx, ex, _⟩ := vd_iff.1 hx
  obtain ⟨vy, ey, _⟩ := vd_iff.1 hy
  rcases hr : rais (f - e) a b c d with _ | ⟨A, B, C, D⟩
  · have hlt : e < f := by
      apply Nat.lt_of_not_le; intro hh
      rw [Nat.sub_eq_zero_of_le hh] at hr; cases hr
    obtain ⟨A, B, C, D, h1, _⟩ := raisS_none _ vx hr
    have h2 : raisS (e - f) p q r s true = (⟨p, q, r, s⟩, true) := by rw [Nat.sub_eq_zero_of_le (Nat.le_of_lt hlt)]; rfl
    obtain ⟨L, M, N, O, E, zz, hm, hz, _⟩ := ladd_any vx vy ex ey h1 h2
    exact ⟨L, M, N, O, E, zz, hm, Or.inr ⟨by rw [hz]; rfl, fun _ _ _ _ _ _ _ _ k _ => (by cases k), fun w => addD_i_lt_n _ _ _ _ _ _ _ _ _ _ 0 0 0 0 0 0 0 0 0 0 0 0 0 w hlt hx hy hr⟩⟩
  · obtain ⟨h1, v1⟩ := raisS_some _ vx hr
    rcases hs : rais (e - f) p q r s with _ | ⟨P, Q, R, S⟩
    · have hlt : f < e := by
        apply Nat.lt_of_not_le; intro hh
        rw [Nat.sub_eq_zero_of_le hh] at hs; cases hs
      obtain ⟨P, Q, R, S, h2, _⟩ := raisS_none _ vy hs
      obtain ⟨L, M, N, O, E, zz, hm, hz, _⟩ := ladd_any vx vy ex ey h1 h2
      exact ⟨L, M, N, O, E, zz, hm, Or.inr ⟨by rw [hz]; rfl, fun _ _ _ _ _ _ _ _ _ k => (by cases k), fun w => addD_i_gt_n _ _ _ _ _ _ _ _ _ _ 0 0 0 0 0 0 0 0 0 0 0 0 0 w hlt hx hy hs⟩⟩
    · obtain ⟨h2, v2⟩ := raisS_some _ vy hs
      obtain ⟨L, M, N, O, E, zz, hm, hz, hl⟩ := ladd_any vx vy ex ey h1 h2
      rcases Nat.lt_trichotomy e f with hc | hc | hc
      · have hP : (⟨p, q, r, s⟩ : R4) = ⟨P, Q, R, S⟩ := by rw [Nat.sub_eq_zero_of_le (Nat.le_of_lt hc)] at hs; simpa [rais] using hs
        simp only [R4.mk.injEq] at hP
        obtain ⟨rfl, rfl, rfl, rfl⟩ := hP
        have hef : e + (f - e) = f := by omega
        cases hv : vr (A + p) (B + q) (C + r) (D + s)
        · rw [hv] at hz
          exact ⟨L, M, N, O, E, zz, hm, Or.inr ⟨by rw [hz]; rfl, fun _ _ _ _ _ _ _ _ k l => by simp only [Option.some.injEq, R4.mk.injEq] at k l; obtain ⟨rfl, rfl, rfl, rfl⟩ := k; obtain ⟨rfl, rfl, rfl, rfl⟩ := l; exact hv, fun w => addD_i_lt_o _ _ _ _ _ _ _ _ _ _ A B C D 0 0 0 0 0 0 0 0 0 w hc hx hy hr hv⟩⟩
        · rw [hv] at hz
          exact ⟨L, M, N, O, E, zz, hm, Or.inl ⟨by rw [hz]; rfl, ⟨_, _, _, _, _, _, _, _, rfl, rfl, hv, hl hv⟩, fun w => addD_i_lt_t _ _ _ _ _ _ _ _ _ _ A B C D 0 0 0 0 _ _ _ _ _ w hc hx hy hr hv (by rw [← hl hv, hef])⟩⟩
      · subst hc
        rw [Nat.sub_self] at hr hs
        have hA : (⟨a, b, c, d⟩ : R4) = ⟨A, B, C, D⟩ := by simpa [rais] using hr
        have hP : (⟨p, q, r, s⟩ : R4) = ⟨P, Q, R, S⟩ := by simpa [rais] using hs
        simp only [R4.mk.injEq] at hA hP
        obtain ⟨rfl, rfl, rfl, rfl⟩ := hA
        obtain ⟨rfl, rfl, rfl, rfl⟩ := hP
        have hef : e + (e - e) = e := by omega
        cases hv : vr (a + p) (b + q) (c + r) (d + s)
        · rw [hv] at hz
          exact ⟨L, M, N, O, E, zz, hm, Or.inr ⟨by rw [hz]; rfl, fun _ _ _ _ _ _ _ _ k l => by simp only [Option.some.injEq, R4.mk.injEq] at k l; obtain ⟨rfl, rfl, rfl, rfl⟩ := k; obtain ⟨rfl, rfl, rfl, rfl⟩ := l; exact hv, fun w => addD_i_eq_o _ _ _ _ _ _ _ _ _ _ 0 0 0 0 0 0 0 0 0 0 0 0 0 w rfl hx hy hv⟩⟩
        · rw [hv] at hz
          exact ⟨L, M, N, O, E, zz, hm, Or.inl ⟨by rw [hz]; rfl, ⟨_, _, _, _, _, _, _, _, rfl, rfl, hv, hl hv⟩, fun w => addD_i_eq_t _ _ _ _ _ _ _ _ _ _ 0 0 0 0 0 0 0 0 _ _ _ _ _ w rfl hx hy hv (by rw [← hl hv, hef])⟩⟩
      · have hA : (⟨a, b, c, d⟩ : R4) = ⟨A, B, C, D⟩ := by rw [Nat.sub_eq_zero_of_le (Nat.le_of_lt hc)] at hr; simpa [rais] using hr
        simp only [R4.mk.injEq] at hA
        obtain ⟨rfl, rfl, rfl, rfl⟩ := hA
        have hef : e + (f - e) = e := by omega
        cases hv : vr (a + P) (b + Q) (c + R) (d + S)
        · rw [hv] at hz
          exact ⟨L, M, N, O, E, zz, hm, Or.inr ⟨by rw [hz]; rfl, fun _ _ _ _ _ _ _ _ k l => by simp only [Option.some.injEq, R4.mk.injEq] at k l; obtain ⟨rfl, rfl, rfl, rfl⟩ := k; obtain ⟨rfl, rfl, rfl, rfl⟩ := l; exact hv, fun w => addD_i_gt_o _ _ _ _ _ _ _ _ _ _ 0 0 0 0 P Q R S 0 0 0 0 0 w hc hx hy hs (by rw [Int.add_comm P a, Int.add_comm Q b, Int.add_comm R c, Int.add_comm S d]; exact hv)⟩⟩
        · rw [hv] at hz
          exact ⟨L, M, N, O, E, zz, hm, Or.inl ⟨by rw [hz]; rfl, ⟨_, _, _, _, _, _, _, _, rfl, rfl, hv, hl hv⟩, fun w => addD_i_gt_t _ _ _ _ _ _ _ _ _ _ 0 0 0 0 P Q R S _ _ _ _ _ w hc hx hy hs (by rw [Int.add_comm P a, Int.add_comm Q b, Int.add_comm R c, Int.add_comm S d]; exact hv) (by rw [Int.add_comm P a, Int.add_comm Q b, Int.add_comm R c, Int.add_comm S d, ← hl hv, hef])⟩⟩
theorem vr_neg2 {p q r s : Int} : vr (-p) (-q) (-r) (-s) = vr p q r s := by
  rw [Bool.eq_iff_iff, vr_iff, vr_iff]; omega
theorem vi_neg {p q r s t : Int} (h : vi p q r s t = false) : vi (-p) (-q) (-r) (-s) t = false := by
  rcases vi_cases (a := -p) (b := -q) (c := -r) (d := -s) (e := t) with k | ⟨n, rfl, k⟩
  · exact k
  · have := vd_neg k
    simp only [Int.neg_neg] at this
    rw [vi_nat, this] at h; cases h
end Go.Proofs.Ytefmglofnoinmaa
