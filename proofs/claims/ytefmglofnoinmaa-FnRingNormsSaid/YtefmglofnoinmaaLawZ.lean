/- Plain results of the operations of the ring, and contracts that give them. Helpers of the laws on drawn numbers. -/
import Derived.Test.YtefmglofnoinmaaMulIt
import Derived.Test.YtefmglofnoinmaaMulIo
import Derived.Test.YtefmglofnoinmaaMulS
import Derived.Test.YtefmglofnoinmaaAddA
import Derived.Test.YtefmglofnoinmaaOneArg
import Derived.Test.YtefmglofnoinmaaMathE
import Derived.Deep.LoopGhost
import Derived.Test.YtefmglofnoinmaaHeldB
import Derived.Deep.RegionHeld3
import Derived.Deep.MidRow
import Derived.Deep.DeepCutAuto
import Derived.Deep.RegionWith
import Derived.Test.YtefmglofnoinmaaCursor
namespace Go.Proofs.Ytefmglofnoinmaa
open Go.RowKit RM
set_option linter.unusedVariables false
set_option linter.unusedSimpArgs false
attribute [local irreducible] World.setCell

/-- product, sum, conjugates, or a failure -/
def mv (x y : R4) : R4 × Bool := if vr x.a x.b x.c x.d && vr y.a y.b y.c y.d && vr (mul4 x y).a (mul4 x y).b (mul4 x y).c (mul4 x y).d then (mul4 x y, true) else (⟨0, 0, 0, 0⟩, false)
def av (x y : R4) : R4 × Bool := if vr x.a x.b x.c x.d && vr y.a y.b y.c y.d && vr (add4 x y).a (add4 x y).b (add4 x y).c (add4 x y).d then (add4 x y, true) else (⟨0, 0, 0, 0⟩, false)
def cj4 (x : R4) : R4 := ⟨x.a, -x.d, -x.c, -x.b⟩
def bl4 (x : R4) : R4 := ⟨x.a, -x.b, x.c, -x.d⟩
def cv (x : R4) : R4 × Bool := if vr x.a x.b x.c x.d then (cj4 x, true) else (⟨0, 0, 0, 0⟩, false)
def bv (x : R4) : R4 × Bool := if vr x.a x.b x.c x.d then (bl4 x, true) else (⟨0, 0, 0, 0⟩, false)
abbrev rr (x : R4) : Value := rg x.a x.b x.c x.d
abbrev rrt (x : R4) (ok : Bool) : Value := rt x.a x.b x.c x.d ok
theorem mul_c {x y z : R4} {ok : Bool} (w : World) (h : mv x y = (z, ok)) :
    Calls Try.prog 20 #[rr x, rr y] w fun ee w' => ee = .returned (rrt z ok) ∧ Below w.heap.size w w' := by
  unfold mv at h
  cases hx : vr x.a x.b x.c x.d
  · rw [hx] at h; simp only [Bool.false_and, if_false, Prod.mk.injEq, Bool.false_eq_true] at h; obtain ⟨rfl, rfl⟩ := h; exact mul_i_f1 _ _ _ _ _ _ _ _ w hx
  · cases hy : vr y.a y.b y.c y.d
    · rw [hx, hy] at h; simp only [Bool.false_and, Bool.and_false, Bool.true_and, if_false, Prod.mk.injEq, Bool.false_eq_true] at h; obtain ⟨rfl, rfl⟩ := h; exact mul_i_f2 _ _ _ _ _ _ _ _ w hx hy
    · cases hv : vr (mul4 x y).a (mul4 x y).b (mul4 x y).c (mul4 x y).d
      · rw [hx, hy, hv] at h; simp only [Bool.and_false, if_false, Prod.mk.injEq, Bool.false_eq_true] at h; obtain ⟨rfl, rfl⟩ := h; exact mul_i_o _ _ _ _ _ _ _ _ w hx hy hv
      · rw [hx, hy, hv] at h; simp only [Bool.and_true, Bool.true_and, if_true, Prod.mk.injEq] at h; obtain ⟨rfl, rfl⟩ := h; exact mul_i_t _ _ _ _ _ _ _ _ w hx hy hv
theorem mul_sc {x y z : R4} {ok : Bool} (w : World) (h : mv x y = (z, ok)) :
    Calls Try.prog 21 #[rr x, rr y] w fun ee w' => ee = .returned (rrt z ok) ∧ Below w.heap.size w w' := by
  unfold mv at h
  cases hx : vr x.a x.b x.c x.d
  · rw [hx] at h; simp only [Bool.false_and, if_false, Prod.mk.injEq, Bool.false_eq_true] at h; obtain ⟨rfl, rfl⟩ := h; exact mul_s_f1 _ _ _ _ _ _ _ _ w hx
  · cases hy : vr y.a y.b y.c y.d
    · rw [hx, hy] at h; simp only [Bool.false_and, Bool.and_false, Bool.true_and, if_false, Prod.mk.injEq, Bool.false_eq_true] at h; obtain ⟨rfl, rfl⟩ := h; exact mul_s_f2 _ _ _ _ _ _ _ _ w hx hy
    · cases hv : vr (mul4 x y).a (mul4 x y).b (mul4 x y).c (mul4 x y).d
      · rw [hx, hy, hv] at h; simp only [Bool.and_false, if_false, Prod.mk.injEq, Bool.false_eq_true] at h; obtain ⟨rfl, rfl⟩ := h; exact mul_s_o _ _ _ _ _ _ _ _ w hx hy hv
      · rw [hx, hy, hv] at h; simp only [Bool.and_true, Bool.true_and, if_true, Prod.mk.injEq] at h; obtain ⟨rfl, rfl⟩ := h; exact mul_s_t _ _ _ _ _ _ _ _ w hx hy hv
theorem add_c {x y z : R4} {ok : Bool} (w : World) (h : av x y = (z, ok)) :
    Calls Try.prog 22 #[rr x, rr y] w fun ee w' => ee = .returned (rrt z ok) ∧ Below w.heap.size w w' := by
  unfold av at h
  cases hx : vr x.a x.b x.c x.d
  · rw [hx] at h; simp only [Bool.false_and, if_false, Prod.mk.injEq, Bool.false_eq_true] at h; obtain ⟨rfl, rfl⟩ := h; exact add_i_f1 _ _ _ _ _ _ _ _ w hx
  · cases hy : vr y.a y.b y.c y.d
    · rw [hx, hy] at h; simp only [Bool.false_and, Bool.and_false, Bool.true_and, if_false, Prod.mk.injEq, Bool.false_eq_true] at h; obtain ⟨rfl, rfl⟩ := h; exact add_i_f2 _ _ _ _ _ _ _ _ w hx hy
    · cases hv : vr (add4 x y).a (add4 x y).b (add4 x y).c (add4 x y).d
      · rw [hx, hy, hv] at h; simp only [Bool.and_false, if_false, Prod.mk.injEq, Bool.false_eq_true] at h; obtain ⟨rfl, rfl⟩ := h; exact add_i_o _ _ _ _ _ _ _ _ w hx hy hv
      · rw [hx, hy, hv] at h; simp only [Bool.and_true, Bool.true_and, if_true, Prod.mk.injEq] at h; obtain ⟨rfl, rfl⟩ := h; exact add_i_t _ _ _ _ _ _ _ _ w hx hy hv
theorem conj_c {x z : R4} {ok : Bool} (w : World) (h : cv x = (z, ok)) :
    Calls Try.prog 23 #[rr x] w fun ee w' => ee = .returned (rrt z ok) ∧ Below w.heap.size w w' := by
  unfold cv at h
  cases hx : vr x.a x.b x.c x.d
  · rw [hx] at h; simp only [if_false, Prod.mk.injEq, Bool.false_eq_true] at h; obtain ⟨rfl, rfl⟩ := h; exact conj_i_f _ _ _ _ w hx
  · rw [hx] at h; simp only [if_true, Prod.mk.injEq] at h; obtain ⟨rfl, rfl⟩ := h; exact conj_i_t _ _ _ _ w hx
theorem bul_c {x z : R4} {ok : Bool} (w : World) (h : bv x = (z, ok)) :
    Calls Try.prog 24 #[rr x] w fun ee w' => ee = .returned (rrt z ok) ∧ Below w.heap.size w w' := by
  unfold bv at h
  cases hx : vr x.a x.b x.c x.d
  · rw [hx] at h; simp only [if_false, Prod.mk.injEq, Bool.false_eq_true] at h; obtain ⟨rfl, rfl⟩ := h; exact bul_i_f _ _ _ _ w hx
  · rw [hx] at h; simp only [if_true, Prod.mk.injEq] at h; obtain ⟨rfl, rfl⟩ := h; exact bul_i_t _ _ _ _ w hx

theorem mv_comm (x y : R4) : mv x y = mv y x := by
  unfold mv; rw [mul4_comm x y, Bool.and_comm (vr x.a x.b x.c x.d)]
theorem mv_ok {x y z : R4} (h : mv x y = (z, true)) : vr x.a x.b x.c x.d = true ∧ vr y.a y.b y.c y.d = true ∧ vr z.a z.b z.c z.d = true ∧ z = mul4 x y := by
  unfold mv at h; split at h
  · rename_i hh; simp only [Bool.and_eq_true] at hh; simp only [Prod.mk.injEq] at h; obtain ⟨rfl, _⟩ := h; exact ⟨hh.1.1, hh.1.2, hh.2, rfl⟩
  · simp at h
theorem av_ok {x y z : R4} (h : av x y = (z, true)) : z = add4 x y := by
  unfold av at h; split at h
  · simp only [Prod.mk.injEq] at h; exact h.1.symm
  · simp at h
theorem dist {x y z xy yz left xz right : R4} (h1 : mv x y = (xy, true)) (h2 : av y z = (yz, true)) (h3 : mv x yz = (left, true)) (h4 : mv x z = (xz, true)) (h5 : av xy xz = (right, true)) : left = right := by
  rw [av_ok h5, (mv_ok h3).2.2.2, av_ok h2, (mv_ok h1).2.2.2, (mv_ok h4).2.2.2, mul4_comm, mul4_add4, mul4_comm y, mul4_comm z]
theorem conj_mul (x y : R4) : mul4 (cj4 x) (cj4 y) = cj4 (mul4 x y) := by
  simp only [mul4, cj4, m0, m1, m2, m3]; exact R4.ext' (by simp only []; grind) (by simp only []; grind) (by simp only []; grind) (by simp only []; grind)
theorem bul_mul (x y : R4) : mul4 (bl4 x) (bl4 y) = bl4 (mul4 x y) := by
  simp only [mul4, bl4, m0, m1, m2, m3]; exact R4.ext' (by simp only []; grind) (by simp only []; grind) (by simp only []; grind) (by simp only []; grind)
theorem vr_cj {x : R4} (h : vr x.a x.b x.c x.d = true) : vr (cj4 x).a (cj4 x).b (cj4 x).c (cj4 x).d = true := by
  simp only [cj4]; rw [vr_iff] at *; omega
theorem vr_bl {x : R4} (h : vr x.a x.b x.c x.d = true) : vr (bl4 x).a (bl4 x).b (bl4 x).c (bl4 x).d = true := by
  simp only [bl4]; rw [vr_iff] at *; omega
theorem cv_of {x : R4} (h : vr x.a x.b x.c x.d = true) : cv x = (cj4 x, true) := by unfold cv; rw [if_pos h]
theorem bv_of {x : R4} (h : vr x.a x.b x.c x.d = true) : bv x = (bl4 x, true) := by unfold bv; rw [if_pos h]
theorem mv_cj {x y z : R4} (h : mv x y = (z, true)) : mv (cj4 x) (cj4 y) = (cj4 z, true) := by
  obtain ⟨h1, h2, h3, rfl⟩ := mv_ok h
  unfold mv; rw [conj_mul, vr_cj h1, vr_cj h2, vr_cj h3]; rfl
theorem mv_bl {x y z : R4} (h : mv x y = (z, true)) : mv (bl4 x) (bl4 y) = (bl4 z, true) := by
  obtain ⟨h1, h2, h3, rfl⟩ := mv_ok h
  unfold mv; rw [bul_mul, vr_bl h1, vr_bl h2, vr_bl h3]; rfl
end Go.Proofs.Ytefmglofnoinmaa
namespace Go.Proofs.Ytefmglofnoinmaa
open Go.RowKit RM
set_option linter.unusedVariables false
set_option linter.unusedSimpArgs false
attribute [local irreducible] World.setCell
theorem mul_d (a b c d p q r s A B C D : Int) (ok : Bool) (w : World) (h : mv ⟨a, b, c, d⟩ ⟨p, q, r, s⟩ = (⟨A, B, C, D⟩, ok)) :
    Calls Try.prog 20 #[rg a b c d, rg p q r s] w fun ee w' => ee = .returned (rt A B C D ok) ∧ Below w.heap.size w w' := mul_c w h
theorem mul_sd (a b c d p q r s A B C D : Int) (ok : Bool) (w : World) (h : mv ⟨a, b, c, d⟩ ⟨p, q, r, s⟩ = (⟨A, B, C, D⟩, ok)) :
    Calls Try.prog 21 #[rg a b c d, rg p q r s] w fun ee w' => ee = .returned (rt A B C D ok) ∧ Below w.heap.size w w' := mul_sc w h
theorem add_d (a b c d p q r s A B C D : Int) (ok : Bool) (w : World) (h : av ⟨a, b, c, d⟩ ⟨p, q, r, s⟩ = (⟨A, B, C, D⟩, ok)) :
    Calls Try.prog 22 #[rg a b c d, rg p q r s] w fun ee w' => ee = .returned (rt A B C D ok) ∧ Below w.heap.size w w' := add_c w h
theorem conj_d (a b c d  A B C D : Int) (ok : Bool) (w : World) (h : cv ⟨a, b, c, d⟩ = (⟨A, B, C, D⟩, ok)) :
    Calls Try.prog 23 #[rg a b c d] w fun ee w' => ee = .returned (rt A B C D ok) ∧ Below w.heap.size w w' := conj_c w h
theorem bul_d (a b c d  A B C D : Int) (ok : Bool) (w : World) (h : bv ⟨a, b, c, d⟩ = (⟨A, B, C, D⟩, ok)) :
    Calls Try.prog 24 #[rg a b c d] w fun ee w' => ee = .returned (rt A B C D ok) ∧ Below w.heap.size w w' := bul_c w h

set_option maxRecDepth 100000 in
set_option maxHeartbeats 2000000 in
theorem big_any {A B : Option Addr} {l c l2 c2 : Nat} (w : World) (h1 : (l : Int) ≤ 9223372036854775807) (h2 : (l2 : Int) ≤ 9223372036854775807) :
    Calls Try.prog 17 #[.slice A l c, .slice B l2 c2] w fun e w' => ∃ v : Bool, e = .returned (.bool v) ∧ Below w.heap.size w w' := by
  go_enter Try.func17, Try.ntmps17
  go_wp2_with (fail)
  all_goals (go_ret; first | exact ⟨_, rfl, Below.refl _ _⟩ | exact Below.refl _ _ | exact ⟨Or.inl rfl, Below.refl _ _⟩ | exact ⟨Or.inr rfl, Below.refl _ _⟩)

theorem C4.ofg {W : World} {g : Nat} (a b c d : Int) (t : TypeId) (hg : W.heap.size = g) : C4 (W.alloc (.cells #[.int .i64 a, .int .i64 b, .int .i64 c, .int .i64 d] t)) g a b c d := by
  subst hg; exact C4.of W a b c d t
theorem C5.ofg {W : World} {g : Nat} (a b c d e : Int) (t : TypeId) (hg : W.heap.size = g) : C5 (W.alloc (.cells #[.int .i64 a, .int .i64 b, .int .i64 c, .int .i64 d, .int .i64 e] t)) g a b c d e := by
  subst hg; exact ⟨by go_simp, by go_simp, by go_simp, by go_simp, by go_simp, by go_simp, by go_simp, by go_simp, by go_simp, by go_simp⟩
theorem C4.al {W : World} {o : Obj} {k : Nat} {a b c d : Int} (h : C4 W k a b c d) : C4 (W.alloc o) k a b c d := h.mono ((Below.refl _ _).alloc (Nat.le_refl _) _)
end Go.Proofs.Ytefmglofnoinmaa
