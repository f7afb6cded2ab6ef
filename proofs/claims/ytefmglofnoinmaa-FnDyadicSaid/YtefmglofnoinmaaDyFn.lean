/- Sums, differences and products of any two dyadic numbers: the contracts, and the values. -/
import Derived.Test.YtefmglofnoinmaaAddTwo
import Derived.Test.YtefmglofnoinmaaLawZ
import Derived.Test.YtefmglofnoinmaaMathE
import Derived.Deep.LoopGhost
import Derived.Test.YtefmglofnoinmaaHeldB
import Derived.Deep.RegionHeld3
import Derived.Deep.MidRow
import Derived.Deep.DeepCutAuto
import Derived.Deep.RegionWith
namespace Go.Proofs.Ytefmglofnoinmaa
open Go.RowKit RM
set_option linter.unusedVariables false
set_option linter.unusedSimpArgs false
attribute [local irreducible] World.setCell

theorem ups_zero (x : R4) : ups 0 x = x := rfl
/-- the value of a sum -/
def SumV (x : R4) (e : Nat) (y : R4) (f : Nat) (z : R4) (g : Nat) : Prop := ∀ K, e ≤ K → f ≤ K → g ≤ K → ups (K - g) z = add4 (ups (K - e) x) (ups (K - f) y)
theorem low_lw {e : Nat} {a b c d A B C D : Int} {E : Nat} (h : low e a b c d = ⟨A, B, C, D, E⟩) : E ≤ e ∧ ups (e - E) ⟨A, B, C, D⟩ = ⟨a, b, c, d⟩ ∧ lw ⟨A, B, C, D⟩ E := low_ups e h
theorem sum_val {a b c d : Int} {e : Nat} {p q r s : Int} {f : Nat} {A B C D P Q R S L M N O : Int} {E : Nat} (h1 : rais (f - e) a b c d = some ⟨A, B, C, D⟩) (h2 : rais (e - f) p q r s = some ⟨P, Q, R, S⟩) (h3 : low (e + (f - e)) (A + P) (B + Q) (C + R) (D + S) = ⟨L, M, N, O, E⟩) : SumV ⟨a, b, c, d⟩ e ⟨p, q, r, s⟩ f ⟨L, M, N, O⟩ E := by
  obtain ⟨g1, g2, _⟩ := low_lw h3
  intro K hk1 hk2 hk3
  have hm1 : (f - e) + (K - (e + (f - e))) = K - e := by omega
  have hm2 : (e - f) + (K - (e + (f - e))) = K - f := by omega
  have hm3 : ((e + (f - e)) - E) + (K - (e + (f - e))) = K - E := by omega
  rw [← hm3, ups_add, g2, ← hm1, ups_add, rais_ups _ h1, ← hm2, ups_add, rais_ups _ h2, ← ups_add4]
  rfl
theorem lw_of {a b c d : Int} {e : Nat} (h : vd a b c d e = true) : lw ⟨a, b, c, d⟩ e := (vd_iff.1 h).2.2
theorem le_of {a b c d : Int} {e : Nat} (h : vd a b c d e = true) : e ≤ 60 := (vd_iff.1 h).2.1

theorem add_all (a b c d x p q r s y : Int) : ∃ (L M N O E : Int) (ok : Bool), (∀ w : World, Calls Try.prog 42 #[dy a b c d x, dy p q r s y] w fun ee w' => ee = .returned (dt L M N O E ok) ∧ Below w.heap.size w w') ∧ (∀ w : World, Calls Try.prog 42 #[dy p q r s y, dy a b c d x] w fun ee w' => ee = .returned (dt L M N O E ok) ∧ Below w.heap.size w w') ∧ (∀ w : World, Calls Try.prog 43 #[dy a b c d x, dy p q r s y] w fun ee w' => ee = .returned (dt L M N O E ok) ∧ Below w.heap.size w w') ∧
    (ok = true → ∃ e f g : Nat, x = (e : Int) ∧ y = (f : Int) ∧ E = (g : Int) ∧ vd a b c d e = true ∧ vd p q r s f = true ∧ vd L M N O g = true ∧ SumV ⟨a, b, c, d⟩ e ⟨p, q, r, s⟩ f ⟨L, M, N, O⟩ g) := by
  rcases vi_cases (a := a) (b := b) (c := c) (d := d) (e := x) with h | ⟨e, rfl, h⟩
  · refine ⟨0, 0, 0, 0, 0, false, fun w => addD_i_f1 _ _ _ _ _ _ _ _ _ _ w h, ?_, fun w => addD_s_f1 _ _ _ _ _ _ _ _ _ _ w h, fun h => by cases h⟩
    rcases vi_cases (a := p) (b := q) (c := r) (d := s) (e := y) with k | ⟨f, rfl, k⟩
    · exact fun w => addD_i_f1 _ _ _ _ _ _ _ _ _ _ w k
    · exact fun w => addD_i_f2 _ _ _ _ _ _ _ _ _ _ w k h
  · rcases vi_cases (a := p) (b := q) (c := r) (d := s) (e := y) with k | ⟨f, rfl, k⟩
    · exact ⟨0, 0, 0, 0, 0, false, fun w => addD_i_f2 _ _ _ _ _ _ _ _ _ _ w h k, fun w => addD_i_f1 _ _ _ _ _ _ _ _ _ _ w k, fun w => addD_s_f2 _ _ _ _ _ _ _ _ _ _ w h k, fun h => by cases h⟩
    · obtain ⟨L, M, N, O, E, zz, hm, g | g⟩ := add_two h k
      · obtain ⟨rfl, ⟨A, B, C, D, P, Q, R, S, r1, r2, hv, hl⟩, hi⟩ := g
        have hE := (low_lw hl)
        have hvd := low_vd hv (show e + (f - e) ≤ 60 by have := le_of h; have := le_of k; omega) hl
        refine ⟨L, M, N, O, E, true, hi, ?_, fun w => add_s_y _ _ _ _ _ _ _ _ _ _ _ _ _ _ _ w h k hm, fun _ => ⟨e, f, E, rfl, rfl, rfl, h, k, hvd, sum_val r1 r2 hl⟩⟩
        obtain ⟨L', M', N', O', E', zz', _, g | g⟩ := add_two k h
        · obtain ⟨rfl, ⟨A', B', C', D', P', Q', R', S', r1', r2', hv', hl'⟩, hi'⟩ := g
          rw [r2] at r1'
          rw [r1] at r2'
          simp only [Option.some.injEq, R4.mk.injEq] at r1' r2'
          obtain ⟨rfl, rfl, rfl, rfl⟩ := r1'
          obtain ⟨rfl, rfl, rfl, rfl⟩ := r2'
          rw [Int.add_comm P A, Int.add_comm Q B, Int.add_comm R C, Int.add_comm S D, show f + (e - f) = e + (f - e) by omega, hl] at hl'
          simp only [Dy.mk.injEq] at hl'
          obtain ⟨rfl, rfl, rfl, rfl, rfl⟩ := hl'
          exact hi'
        · obtain ⟨_, hno, _⟩ := g
          have := hno _ _ _ _ _ _ _ _ r2 r1
          rw [Int.add_comm P A, Int.add_comm Q B, Int.add_comm R C, Int.add_comm S D, hv] at this
          cases this
      · obtain ⟨rfl, hno, hi⟩ := g
        refine ⟨0, 0, 0, 0, 0, false, hi, ?_, fun w => add_s_n _ _ _ _ _ _ _ _ _ _ _ _ _ _ _ w h k hm, fun h => by cases h⟩
        obtain ⟨L', M', N', O', E', zz', _, g | g⟩ := add_two k h
        · obtain ⟨rfl, ⟨A', B', C', D', P', Q', R', S', r1', r2', hv', hl'⟩, hi'⟩ := g
          have := hno _ _ _ _ _ _ _ _ r2' r1'
          rw [Int.add_comm P' A', Int.add_comm Q' B', Int.add_comm R' C', Int.add_comm S' D', hv'] at this
          cases this
        · exact g.2.2

theorem sub_any (a b c d x p q r s y : Int) : ∃ (L M N O E : Int) (ok : Bool), (∀ w : World, Calls Try.prog 44 #[dy a b c d x, dy p q r s y] w fun ee w' => ee = .returned (dt L M N O E ok) ∧ Below w.heap.size w w') ∧
    (ok = true → ∃ e f g : Nat, x = (e : Int) ∧ y = (f : Int) ∧ E = (g : Int) ∧ vd a b c d e = true ∧ vd p q r s f = true ∧ vd L M N O g = true ∧ SumV ⟨a, b, c, d⟩ e (neg4 ⟨p, q, r, s⟩) f ⟨L, M, N, O⟩ g) := by
  cases hv : vr p q r s
  · exact ⟨0, 0, 0, 0, 0, false, fun w => subD_i_f _ _ _ _ _ _ _ _ _ _ w hv, fun h => by cases h⟩
  · obtain ⟨L, M, N, O, E, ok, h1, _, _, h4⟩ := add_all a b c d x (-p) (-q) (-r) (-s) y
    refine ⟨L, M, N, O, E, ok, fun w => subD_i _ _ _ _ _ _ _ _ _ _ _ _ _ _ _ _ w hv h1, fun h => ?_⟩
    obtain ⟨e, f, g, e1, e2, e3, v1, v2, v3, sv⟩ := h4 h
    have v2' := vd_neg v2
    simp only [Int.neg_neg] at v2'
    exact ⟨e, f, g, e1, e2, e3, v1, v2', v3, sv⟩
theorem mul_all (a b c d x p q r s y : Int) : ∃ (L M N O E : Int) (ok : Bool), (∀ w : World, Calls Try.prog 45 #[dy a b c d x, dy p q r s y] w fun ee w' => ee = .returned (dt L M N O E ok) ∧ Below w.heap.size w w') ∧ (∀ w : World, Calls Try.prog 45 #[dy p q r s y, dy a b c d x] w fun ee w' => ee = .returned (dt L M N O E ok) ∧ Below w.heap.size w w') ∧
    (ok = true → ∃ e f g : Nat, x = (e : Int) ∧ y = (f : Int) ∧ E = (g : Int) ∧ vd a b c d e = true ∧ vd p q r s f = true ∧ vd L M N O g = true ∧ g ≤ e + f ∧ ups (e + f - g) ⟨L, M, N, O⟩ = mul4 ⟨a, b, c, d⟩ ⟨p, q, r, s⟩) := by
  rcases vi_cases (a := a) (b := b) (c := c) (d := d) (e := x) with h | ⟨e, rfl, h⟩
  · refine ⟨0, 0, 0, 0, 0, false, fun w => mulD_i_f1 _ _ _ _ _ _ _ _ _ _ w h, ?_, fun h => by cases h⟩
    rcases vi_cases (a := p) (b := q) (c := r) (d := s) (e := y) with k | ⟨f, rfl, k⟩
    · exact fun w => mulD_i_f1 _ _ _ _ _ _ _ _ _ _ w k
    · exact fun w => mulD_i_f2 _ _ _ _ _ _ _ _ _ _ w k h
  · rcases vi_cases (a := p) (b := q) (c := r) (d := s) (e := y) with k | ⟨f, rfl, k⟩
    · exact ⟨0, 0, 0, 0, 0, false, fun w => mulD_i_f2 _ _ _ _ _ _ _ _ _ _ w h k, fun w => mulD_i_f1 _ _ _ _ _ _ _ _ _ _ w k, fun h => by cases h⟩
    · have hcm := mul4_comm ⟨a, b, c, d⟩ ⟨p, q, r, s⟩
      simp only [mul4, R4.mk.injEq] at hcm
      obtain ⟨c0, c1, c2, c3⟩ := hcm
      obtain ⟨L, M, N, O, E, zz, _, g | g⟩ := mul_two h k
      · obtain ⟨rfl, hs, hv, hl, hi⟩ := g
        have hE := low_lw hl
        refine ⟨L, M, N, O, E, true, hi, ?_, fun _ => ⟨e, f, E, rfl, rfl, rfl, h, k, low_vd hv hs hl, hE.1, hE.2.1⟩⟩
        obtain ⟨L', M', N', O', E', zz', _, g | g⟩ := mul_two k h
        · obtain ⟨rfl, _, _, hl', hi'⟩ := g
          rw [← c0, ← c1, ← c2, ← c3, Nat.add_comm f e, hl] at hl'
          simp only [Dy.mk.injEq] at hl'
          obtain ⟨rfl, rfl, rfl, rfl, rfl⟩ := hl'
          exact hi'
        · obtain ⟨_, hno, _⟩ := g
          exact absurd ⟨by omega, by rw [← c0, ← c1, ← c2, ← c3]; exact hv⟩ hno
      · obtain ⟨rfl, hno, hi⟩ := g
        refine ⟨0, 0, 0, 0, 0, false, hi, ?_, fun h => by cases h⟩
        obtain ⟨L', M', N', O', E', zz', _, g | g⟩ := mul_two k h
        · obtain ⟨rfl, hs', hv', _, _⟩ := g
          exact absurd ⟨by omega, by rw [c0, c1, c2, c3]; exact hv'⟩ hno
        · exact g.2.2

theorem back_eq {x y s b : R4} {e f g h : Nat} (hx : lw x e) (hb : lw b h) (e1 : e ≤ 60) (f1 : f ≤ 60) (g1 : g ≤ 60) (h1 : h ≤ 60) (hs : SumV x e y f s g) (hd : SumV s g (neg4 y) f b h) : b = x ∧ h = e := by
  refine lw_uniq hb hx h1 e1 ?_
  rw [hd 60 g1 f1 h1, hs 60 e1 f1 g1, ups_neg4, add4_sub]
theorem dist_eq {x y z s xz yz l r : R4} {e f h g a b c k : Nat} (hl : lw l c) (hr : lw r k) (e1 : e ≤ 60) (f1 : f ≤ 60) (g1 : g ≤ 60) (hs : SumV x e y f s g)
    (ha : a ≤ e + h) (hxz : ups (e + h - a) xz = mul4 x z) (hb : b ≤ f + h) (hyz : ups (f + h - b) yz = mul4 y z) (hc : c ≤ g + h) (hlz : ups (g + h - c) l = mul4 s z) (k1 : k ≤ 60) (hrr : SumV xz a yz b r k) : l = r ∧ c = k := by
  have A1 : ups (60 + h - a) xz = ups (60 - e) (mul4 x z) := by rw [← hxz, ← ups_add]; congr 1; omega
  have B1 : ups (60 + h - b) yz = ups (60 - f) (mul4 y z) := by rw [← hyz, ← ups_add]; congr 1; omega
  have C1 : ups (60 + h - c) l = ups (60 - g) (mul4 s z) := by rw [← hlz, ← ups_add]; congr 1; omega
  refine lw_uniq (N := 60 + h) hl hr (by omega) (by omega) ?_
  rw [C1, hrr (60 + h) (by omega) (by omega) (by omega), A1, B1, ← ups_mul4, ← ups_mul4, ← ups_mul4, hs 60 e1 f1 g1, mul4_add4]
end Go.Proofs.Ytefmglofnoinmaa
