/- MxA, MxE, Tu, GmA, Tab, Gx -/
import Derived.Test.YtnjckeadcbfogaaZp3
import Derived.Test.YtnjckeadcbfogaaZp9
import Derived.Test.YtnjckeadcbfogaaZp10
import Derived.Test.YtnjckeadcbfogaaZp11
import Derived.Test.YtnjckeadcbfogaaZp13
import Derived.Test.YtnjckeadcbfogaaZp12
import Derived.Test.YtnjckeadcbfogaaZp6
import Derived.Test.YtnjckeadcbfogaaZp7
import Derived.Test.YtnjckeadcbfogaaZp0
import Derived.Test.YtnjckeadcbfogaaZp4
namespace Go.Proofs.Ytnjckeadcbfogaa
open Go.RowKit RM
set_option linter.unusedVariables false
set_option linter.unusedSimpArgs false
attribute [local irreducible] World.setCell

theorem raisS_t (n : Nat) : ∀ {a b c d : Int}, (raisS n a b c d true).2 = true := by
  induction n with
  | zero => intro a b c d; rfl
  | succ n ih => intro a b c d; rw [raisS]; split <;> exact ih
theorem raisS_0 (n : Nat) : ∀ {z : Bool}, raisS n 0 0 0 0 z = (⟨0, 0, 0, 0⟩, z) := by
  induction n with
  | zero => intro z; rfl
  | succ n ih => intro z; rw [raisS, if_pos (by decide)]; exact ih
theorem low_0 (n : Nat) : low n 0 0 0 0 = ⟨0, 0, 0, 0, 0⟩ := by
  induction n with
  | zero => rfl
  | succ n ih => rw [low, if_pos (by decide)]; exact ih

/-- the model's sum: the number and whether a failure is remembered -/
def addR (z : Bool) (x y : D5) : R4 × R4 × Bool :=
  let p := raisS (y.e.toNat - x.e.toNat) x.a x.b x.c x.d z
  let q := raisS (x.e.toNat - y.e.toNat) y.a y.b y.c y.d p.2
  (p.1, q.1, q.2)
def addS (z : Bool) (x y : D5) : D5 × Bool :=
  let r := addR z x y
  if vr (r.1.a + r.2.1.a) (r.1.b + r.2.1.b) (r.1.c + r.2.1.c) (r.1.d + r.2.1.d) then (ofDy (low (x.e.toNat + (y.e.toNat - x.e.toNat)) (r.1.a + r.2.1.a) (r.1.b + r.2.1.b) (r.1.c + r.2.1.c) (r.1.d + r.2.1.d)), r.2.2)
  else (ofDy (low (x.e.toNat + (y.e.toNat - x.e.toNat)) 0 0 0 0), true)
/-- the model's product -/
def mulS (z : Bool) (x y : D5) : D5 × Bool :=
  if x.e.toNat + y.e.toNat ≤ 60 then
    if vr (m0 x.a x.b x.c x.d y.a y.b y.c y.d) (m1 x.a x.b x.c x.d y.a y.b y.c y.d) (m2 x.a x.b x.c x.d y.a y.b y.c y.d) (m3 x.a x.b x.c x.d y.a y.b y.c y.d) then (ofDy (low (x.e.toNat + y.e.toNat) (m0 x.a x.b x.c x.d y.a y.b y.c y.d) (m1 x.a x.b x.c x.d y.a y.b y.c y.d) (m2 x.a x.b x.c x.d y.a y.b y.c y.d) (m3 x.a x.b x.c x.d y.a y.b y.c y.d)), z)
    else (ofDy (low (x.e.toNat + y.e.toNat) 0 0 0 0), true)
  else (z5, true)
theorem addS_ok {z : Bool} {x y : D5} (hx : x.ok = true) (hy : y.ok = true) : (addS z x y).1.ok = true := by
  obtain ⟨e, h1, h2⟩ := ok_nat hx
  obtain ⟨f, k1, k2⟩ := ok_nat hy
  have he := (vd_iff.1 h2).2.1
  have hf := (vd_iff.1 k2).2.1
  have hs : x.e.toNat + (y.e.toNat - x.e.toNat) ≤ 60 := by rw [h1, k1]; simp; omega
  unfold addS
  dsimp only
  split
  · rename_i hv; exact ok_low hv hs
  · exact ok_low (by decide) hs
theorem addS_t {x y : D5} : (addS true x y).2 = true := by
  unfold addS addR
  dsimp only
  split
  · rw [raisS_t]
    exact raisS_t _
  · rfl
theorem mulS_ok {z : Bool} {x y : D5} (hx : x.ok = true) (hy : y.ok = true) : (mulS z x y).1.ok = true := by
  unfold mulS
  split
  · rename_i hs
    split
    · rename_i hv; exact ok_low hv hs
    · exact ok_low (by decide) hs
  · exact z5_ok
theorem mulS_t {x y : D5} : (mulS true x y).2 = true := by
  unfold mulS
  split
  · split <;> rfl
  · rfl
theorem mulS_z {z : Bool} {y : D5} (hy : y.ok = true) : mulS z z5 y = (z5, z) := by
  obtain ⟨f, k1, k2⟩ := ok_nat hy
  have hf := (vd_iff.1 k2).2.1
  unfold mulS z5
  have h0 : ∀ p q r s : Int, m0 0 0 0 0 p q r s = 0 := by intros; simp [m0]
  have h1 : ∀ p q r s : Int, m1 0 0 0 0 p q r s = 0 := by intros; simp [m1]
  have h2 : ∀ p q r s : Int, m2 0 0 0 0 p q r s = 0 := by intros; simp [m2]
  have h3 : ∀ p q r s : Int, m3 0 0 0 0 p q r s = 0 := by intros; simp [m3]
  simp only [h0, h1, h2, h3, low_0]
  rw [if_pos (by rw [k1]; simp; omega), if_pos (by decide)]
  rfl
theorem addS_z {z : Bool} {x : D5} (hx : x.ok = true) : addS z x z5 = (x, z) := by
  obtain ⟨a, b, c, d, e'⟩ := x
  obtain ⟨e, k1, k2⟩ := ok_nat hx
  dsimp only at k1 k2
  subst k1
  obtain ⟨h1, h2, h3⟩ := vd_iff.1 k2
  have e1 : (z5.e.toNat - ((e : Int)).toNat) = 0 := by simp [z5]
  have e2 : ((e : Int)).toNat = e := by simp
  unfold addS addR
  dsimp only
  rw [e1, e2]
  simp only [z5, raisS, Int.toNat_zero, Nat.sub_zero, raisS_0, Int.add_zero, Nat.add_zero, h1, if_true, low_fix h3]
  rfl

theorem cadd {x y : D5} {z : Bool} {g : Nat} {w : World} (hx : x.ok = true) (hy : y.ok = true) (h0 : w.cell? ⟨g, 0, none⟩ = some (.bool z)) (f0 : w.frozen? ⟨g, 0, none⟩ = false) :
    Calls Try.prog 108 #[.pointer (some ⟨g, 0, none⟩), x.v, y.v] w fun ee w' => ee = .returned (addS z x y).1.v ∧ Below w.heap.size (w.setCell ⟨g, 0, none⟩ (.bool (addS z x y).2)) w' := by
  obtain ⟨a, b, c, d, e'⟩ := x
  obtain ⟨p, q, r, s, f'⟩ := y
  obtain ⟨e, h1, h2⟩ := ok_nat hx
  obtain ⟨f, k1, k2⟩ := ok_nat hy
  dsimp only at h1 h2 k1 k2
  subst h1 k1
  obtain ⟨vx, ex, _⟩ := vd_iff.1 h2
  obtain ⟨vy, ey, _⟩ := vd_iff.1 k2
  unfold addS addR
  simp only [Int.toNat_natCast]
  rcases hr1 : raisS (f - e) a b c d z with ⟨⟨A, B, C, D⟩, z1⟩
  rcases hr2 : raisS (e - f) p q r s z1 with ⟨⟨P, Q, R, S⟩, z2⟩
  cases hv : vr (A + P) (B + Q) (C + R) (D + S)
  · simp only [Bool.false_eq_true, if_false]
    rcases hl : low (e + (f - e)) 0 0 0 0 with ⟨L, M, N, O, E⟩
    exact ladd_f _ _ _ _ _ _ _ _ _ _ g _ _ _ _ _ _ _ _ _ _ _ _ _ _ _ _ w h0 f0 ex ey vx vy hr1 hr2 hv hl
  · simp only [if_true]
    rcases hl : low (e + (f - e)) (A + P) (B + Q) (C + R) (D + S) with ⟨L, M, N, O, E⟩
    exact ladd_t _ _ _ _ _ _ _ _ _ _ g _ _ _ _ _ _ _ _ _ _ _ _ _ _ _ _ w h0 f0 ex ey vx vy hr1 hr2 hv hl

theorem cmul {x y : D5} {z : Bool} {g : Nat} {w : World} (hx : x.ok = true) (hy : y.ok = true) (h0 : w.cell? ⟨g, 0, none⟩ = some (.bool z)) (f0 : w.frozen? ⟨g, 0, none⟩ = false) :
    Calls Try.prog 109 #[.pointer (some ⟨g, 0, none⟩), x.v, y.v] w fun ee w' => ee = .returned (mulS z x y).1.v ∧ Below w.heap.size (w.setCell ⟨g, 0, none⟩ (.bool (mulS z x y).2)) w' := by
  obtain ⟨a, b, c, d, e'⟩ := x
  obtain ⟨p, q, r, s, f'⟩ := y
  obtain ⟨e, h1, h2⟩ := ok_nat hx
  obtain ⟨f, k1, k2⟩ := ok_nat hy
  dsimp only at h1 h2 k1 k2
  subst h1 k1
  obtain ⟨vx, ex, _⟩ := vd_iff.1 h2
  obtain ⟨vy, ey, _⟩ := vd_iff.1 k2
  unfold mulS
  simp only [Int.toNat_natCast]
  by_cases hs : e + f ≤ 60
  · rw [if_pos hs]
    cases hv : vr (m0 a b c d p q r s) (m1 a b c d p q r s) (m2 a b c d p q r s) (m3 a b c d p q r s)
    · simp only [Bool.false_eq_true, if_false]
      rcases hl : low (e + f) 0 0 0 0 with ⟨L, M, N, O, E⟩
      exact lmul_o _ _ _ _ _ _ _ _ _ _ g _ _ _ _ _ _ w h0 f0 ex ey vx vy hs hv hl
    · simp only [if_true]
      rcases hl : low (e + f) (m0 a b c d p q r s) (m1 a b c d p q r s) (m2 a b c d p q r s) (m3 a b c d p q r s) with ⟨L, M, N, O, E⟩
      exact lmul_t _ _ _ _ _ _ _ _ _ _ g _ _ _ _ _ _ w h0 f0 ex ey vx vy hs hv hl
  · rw [if_neg hs]
    exact lmul_x _ _ _ _ _ _ _ _ _ _ g _ w h0 f0 ex ey hs

theorem addS_eq {a b c d : Int} {e : Nat} {p q r s : Int} {f : Nat} {A B C D P Q R S : Int} {z1 z2 : Bool} (h1 : raisS (f - e) a b c d false = (⟨A, B, C, D⟩, z1)) (h2 : raisS (e - f) p q r s z1 = (⟨P, Q, R, S⟩, z2)) :
    addS false ⟨a, b, c, d, e⟩ ⟨p, q, r, s, f⟩ = if vr (A + P) (B + Q) (C + R) (D + S) then (ofDy (low (e + (f - e)) (A + P) (B + Q) (C + R) (D + S)), z2) else (ofDy (low (e + (f - e)) 0 0 0 0), true) := by
  unfold addS addR
  simp only [Int.toNat_natCast]
  rw [h1]
  dsimp only
  rw [h2]
theorem iadd_key {a b c d : Int} {e : Nat} {p q r s : Int} {f : Nat} (hx : vd a b c d e = true) (hy : vd p q r s f = true) (w : World) :
    ((addS false ⟨a, b, c, d, e⟩ ⟨p, q, r, s, f⟩).2 = true ∧ Calls Try.prog 114 #[dy a b c d (e : Int), dy p q r s (f : Int)] w fun ee w' => ee = .returned (dt 0 0 0 0 0 false) ∧ Below w.heap.size w w') ∨
    ∃ L M N O E : Int, addS false ⟨a, b, c, d, e⟩ ⟨p, q, r, s, f⟩ = (⟨L, M, N, O, E⟩, false) ∧ Calls Try.prog 114 #[dy a b c d (e : Int), dy p q r s (f : Int)] w fun ee w' => ee = .returned (dt L M N O E true) ∧ Below w.heap.size w w' := by
  obtain ⟨vx, ex, _⟩ := vd_iff.1 hx
  obtain ⟨vy, ey, _⟩ := vd_iff.1 hy
  rcases hr : rais (f - e) a b c d with _ | ⟨A, B, C, D⟩
  · have hlt : e < f := by
      apply Nat.lt_of_not_le; intro hh
      rw [Nat.sub_eq_zero_of_le hh] at hr; cases hr
    obtain ⟨A, B, C, D, h1, _⟩ := raisS_none _ vx hr
    have h2 : raisS (e - f) p q r s true = (⟨p, q, r, s⟩, true) := by rw [Nat.sub_eq_zero_of_le (Nat.le_of_lt hlt)]; rfl
    exact Or.inl ⟨by rw [addS_eq h1 h2]; split <;> rfl, addD_i_lt_n _ _ _ _ _ _ _ _ _ _ 0 0 0 0 0 0 0 0 0 0 0 0 0 w hlt hx hy hr⟩
  · obtain ⟨h1, v1⟩ := raisS_some _ vx hr
    rcases hs : rais (e - f) p q r s with _ | ⟨P, Q, R, S⟩
    · have hlt : f < e := by
        apply Nat.lt_of_not_le; intro hh
        rw [Nat.sub_eq_zero_of_le hh] at hs; cases hs
      obtain ⟨P, Q, R, S, h2, _⟩ := raisS_none _ vy hs
      exact Or.inl ⟨by rw [addS_eq h1 h2]; split <;> rfl, addD_i_gt_n _ _ _ _ _ _ _ _ _ _ 0 0 0 0 0 0 0 0 0 0 0 0 0 w hlt hx hy hs⟩
    · obtain ⟨h2, v2⟩ := raisS_some _ vy hs
      rcases Nat.lt_trichotomy e f with hc | hc | hc
      · have hP : (⟨p, q, r, s⟩ : R4) = ⟨P, Q, R, S⟩ := by rw [Nat.sub_eq_zero_of_le (Nat.le_of_lt hc)] at hs; simpa [rais] using hs
        simp only [R4.mk.injEq] at hP
        obtain ⟨rfl, rfl, rfl, rfl⟩ := hP
        have hef : e + (f - e) = f := by omega
        cases hv : vr (A + p) (B + q) (C + r) (D + s)
        · exact Or.inl ⟨by rw [addS_eq h1 h2, if_neg (by rw [hv]; decide)], addD_i_lt_o _ _ _ _ _ _ _ _ _ _ A B C D 0 0 0 0 0 0 0 0 0 w hc hx hy hr hv⟩
        · rcases hl : low (e + (f - e)) (A + p) (B + q) (C + r) (D + s) with ⟨L, M, N, O, E⟩
          exact Or.inr ⟨L, M, N, O, E, by rw [addS_eq h1 h2, if_pos hv, hl]; rfl, addD_i_lt_t _ _ _ _ _ _ _ _ _ _ A B C D 0 0 0 0 _ _ _ _ _ w hc hx hy hr hv (by rw [← hl, hef])⟩
      · subst hc
        rw [Nat.sub_self] at hr hs
        have hA : (⟨a, b, c, d⟩ : R4) = ⟨A, B, C, D⟩ := by simpa [rais] using hr
        have hP : (⟨p, q, r, s⟩ : R4) = ⟨P, Q, R, S⟩ := by simpa [rais] using hs
        simp only [R4.mk.injEq] at hA hP
        obtain ⟨rfl, rfl, rfl, rfl⟩ := hA
        obtain ⟨rfl, rfl, rfl, rfl⟩ := hP
        have hef : e + (e - e) = e := by omega
        cases hv : vr (a + p) (b + q) (c + r) (d + s)
        · exact Or.inl ⟨by rw [addS_eq h1 h2, if_neg (by rw [hv]; decide)], addD_i_eq_o _ _ _ _ _ _ _ _ _ _ 0 0 0 0 0 0 0 0 0 0 0 0 0 w rfl hx hy hv⟩
        · rcases hl : low (e + (e - e)) (a + p) (b + q) (c + r) (d + s) with ⟨L, M, N, O, E⟩
          exact Or.inr ⟨L, M, N, O, E, by rw [addS_eq h1 h2, if_pos hv, hl]; rfl, addD_i_eq_t _ _ _ _ _ _ _ _ _ _ 0 0 0 0 0 0 0 0 _ _ _ _ _ w rfl hx hy hv (by rw [← hl, hef])⟩
      · have hA : (⟨a, b, c, d⟩ : R4) = ⟨A, B, C, D⟩ := by rw [Nat.sub_eq_zero_of_le (Nat.le_of_lt hc)] at hr; simpa [rais] using hr
        simp only [R4.mk.injEq] at hA
        obtain ⟨rfl, rfl, rfl, rfl⟩ := hA
        have hef : e + (f - e) = e := by omega
        cases hv : vr (a + P) (b + Q) (c + R) (d + S)
        · exact Or.inl ⟨by rw [addS_eq h1 h2, if_neg (by rw [hv]; decide)], addD_i_gt_o _ _ _ _ _ _ _ _ _ _ 0 0 0 0 P Q R S 0 0 0 0 0 w hc hx hy hs (by rw [Int.add_comm P a, Int.add_comm Q b, Int.add_comm R c, Int.add_comm S d]; exact hv)⟩
        · rcases hl : low (e + (f - e)) (a + P) (b + Q) (c + R) (d + S) with ⟨L, M, N, O, E⟩
          exact Or.inr ⟨L, M, N, O, E, by rw [addS_eq h1 h2, if_pos hv, hl]; rfl, addD_i_gt_t _ _ _ _ _ _ _ _ _ _ 0 0 0 0 P Q R S _ _ _ _ _ w hc hx hy hs (by rw [Int.add_comm P a, Int.add_comm Q b, Int.add_comm R c, Int.add_comm S d]; exact hv) (by rw [Int.add_comm P a, Int.add_comm Q b, Int.add_comm R c, Int.add_comm S d, ← hl, hef])⟩
/-- the program's sum of two valid numbers: it fails, or is the model's -/
theorem iadd_f {x y : D5} (hx : x.ok = true) (hy : y.ok = true) (h : (addS false x y).2 = true) (w : World) :
    Calls Try.prog 114 #[x.v, y.v] w fun ee w' => ee = .returned (dt 0 0 0 0 0 false) ∧ Below w.heap.size w w' := by
  obtain ⟨a, b, c, d, e'⟩ := x
  obtain ⟨p, q, r, s, f'⟩ := y
  obtain ⟨e, h1, h2⟩ := ok_nat hx
  obtain ⟨f, k1, k2⟩ := ok_nat hy
  dsimp only at h1 h2 k1 k2
  subst h1 k1
  rcases iadd_key h2 k2 w with ⟨_, hc⟩ | ⟨L, M, N, O, E, hk, _⟩
  · exact hc
  · rw [hk] at h; cases h
theorem iadd_t {x y : D5} (hx : x.ok = true) (hy : y.ok = true) (h : (addS false x y).2 = false) (w : World) :
    Calls Try.prog 114 #[x.v, y.v] w fun ee w' => ee = .returned (.tuple #[(addS false x y).1.v, .bool true]) ∧ Below w.heap.size w w' := by
  obtain ⟨a, b, c, d, e'⟩ := x
  obtain ⟨p, q, r, s, f'⟩ := y
  obtain ⟨e, h1, h2⟩ := ok_nat hx
  obtain ⟨f, k1, k2⟩ := ok_nat hy
  dsimp only at h1 h2 k1 k2
  subst h1 k1
  rcases iadd_key h2 k2 w with ⟨hk, _⟩ | ⟨L, M, N, O, E, hk, hc⟩
  · rw [hk] at h; cases h
  · rw [hk]; exact hc
theorem imul_f {x y : D5} (hx : x.ok = true) (hy : y.ok = true) (h : (mulS false x y).2 = true) (w : World) :
    Calls Try.prog 159 #[x.v, y.v] w fun ee w' => ee = .returned (dt 0 0 0 0 0 false) ∧ Below w.heap.size w w' := by
  obtain ⟨a, b, c, d, e'⟩ := x
  obtain ⟨p, q, r, s, f'⟩ := y
  obtain ⟨e, h1, h2⟩ := ok_nat hx
  obtain ⟨f, k1, k2⟩ := ok_nat hy
  dsimp only at h1 h2 k1 k2
  subst h1 k1
  unfold mulS at h
  simp only [Int.toNat_natCast] at h
  cases hv : vr (m0 a b c d p q r s) (m1 a b c d p q r s) (m2 a b c d p q r s) (m3 a b c d p q r s)
  · exact mulD_i_o _ _ _ _ _ _ _ _ _ _ w h2 k2 hv
  · by_cases hs : e + f ≤ 60
    · rw [if_pos hs, if_pos hv] at h; cases h
    · exact mulD_i_x _ _ _ _ _ _ _ _ _ _ w h2 k2 hs hv
theorem imul_t {x y : D5} (hx : x.ok = true) (hy : y.ok = true) (h : (mulS false x y).2 = false) (w : World) :
    Calls Try.prog 159 #[x.v, y.v] w fun ee w' => ee = .returned (.tuple #[(mulS false x y).1.v, .bool true]) ∧ Below w.heap.size w w' := by
  obtain ⟨a, b, c, d, e'⟩ := x
  obtain ⟨p, q, r, s, f'⟩ := y
  obtain ⟨e, h1, h2⟩ := ok_nat hx
  obtain ⟨f, k1, k2⟩ := ok_nat hy
  dsimp only at h1 h2 k1 k2
  subst h1 k1
  unfold mulS at h ⊢
  simp only [Int.toNat_natCast] at h ⊢
  by_cases hs : e + f ≤ 60
  · cases hv : vr (m0 a b c d p q r s) (m1 a b c d p q r s) (m2 a b c d p q r s) (m3 a b c d p q r s)
    · rw [if_pos hs, if_neg (by rw [hv]; decide)] at h; cases h
    · rw [if_pos hs, if_pos rfl]
      rcases hl : low (e + f) (m0 a b c d p q r s) (m1 a b c d p q r s) (m2 a b c d p q r s) (m3 a b c d p q r s) with ⟨L, M, N, O, E⟩
      exact mulD_i_t _ _ _ _ _ _ _ _ _ _ _ _ _ _ _ w h2 k2 hs hv hl
  · rw [if_neg hs] at h; cases h
attribute [irreducible] addS mulS
end Go.Proofs.Ytnjckeadcbfogaa
namespace Go.Proofs.Ytnjckeadcbfogaa
open Go.RowKit RM
set_option linter.unusedVariables false
set_option linter.unusedSimpArgs false
attribute [local irreducible] World.setCell

theorem addS_zl {z : Bool} {y : D5} (hy : y.ok = true) : addS z z5 y = (y, z) := by
  obtain ⟨a, b, c, d, e'⟩ := y
  obtain ⟨e, k1, k2⟩ := ok_nat hy
  dsimp only at k1 k2
  subst k1
  obtain ⟨h1, h2, h3⟩ := vd_iff.1 k2
  have e1 : (z5.e.toNat - ((e : Int)).toNat) = 0 := by simp [z5]
  have e2 : ((e : Int)).toNat = e := by simp
  have e3 : z5.e.toNat = 0 := rfl
  unfold addS addR
  dsimp only
  rw [e1, e2, e3]
  simp only [z5, raisS, Nat.sub_zero, raisS_0, Int.zero_add, Nat.zero_add, h1, if_true, low_fix h3]
  rfl
theorem mulS_one {z : Bool} {y : D5} (hy : y.ok = true) : mulS z one5 y = (y, z) := by
  obtain ⟨a, b, c, d, e'⟩ := y
  obtain ⟨e, k1, k2⟩ := ok_nat hy
  dsimp only at k1 k2
  subst k1
  obtain ⟨h1, h2, h3⟩ := vd_iff.1 k2
  have e2 : ((e : Int)).toNat = e := by simp
  have e3 : one5.e.toNat = 0 := rfl
  have m0' : ∀ p q r s : Int, m0 1 0 0 0 p q r s = p := by intros; simp [m0]
  have m1' : ∀ p q r s : Int, m1 1 0 0 0 p q r s = q := by intros; simp [m1]
  have m2' : ∀ p q r s : Int, m2 1 0 0 0 p q r s = r := by intros; simp [m2]
  have m3' : ∀ p q r s : Int, m3 1 0 0 0 p q r s = s := by intros; simp [m3]
  unfold mulS
  dsimp only
  rw [e2, e3]
  simp only [one5, m0', m1', m2', m3', Nat.zero_add, h1, h2, if_true, low_fix h3]
  rfl
end Go.Proofs.Ytnjckeadcbfogaa
namespace Go.Proofs.Ytnjckeadcbfogaa
open Go.RowKit RM
set_option linter.unusedVariables false
set_option linter.unusedSimpArgs false
attribute [local irreducible] World.setCell

def turn (m : Nat) (x : D5) : D5 :=
  match m with
  | 0 => ⟨x.a, x.b, x.c, x.d, x.e⟩
  | 1 => ⟨-x.d, x.a, x.b, x.c, x.e⟩
  | 2 => ⟨-x.c, -x.d, x.a, x.b, x.e⟩
  | 3 => ⟨-x.b, -x.c, -x.d, x.a, x.e⟩
  | 4 => ⟨-x.a, -x.b, -x.c, -x.d, x.e⟩
  | 5 => ⟨x.d, -x.a, -x.b, -x.c, x.e⟩
  | 6 => ⟨x.c, x.d, -x.a, -x.b, x.e⟩
  | _ => ⟨x.b, x.c, x.d, -x.a, x.e⟩
def omP (m : Nat) : D5 := turn m one5
theorem lt8 {m : Nat} (h : m < 8) : m = 0 ∨ m = 1 ∨ m = 2 ∨ m = 3 ∨ m = 4 ∨ m = 5 ∨ m = 6 ∨ m = 7 := by omega
theorem turn_e {m : Nat} {x : D5} : (turn m x).e = x.e := by unfold turn; split <;> rfl
theorem tm8 {k : Int} {m : Nat} (h : k % 8 = (m : Int)) (hm : m < 8) : -7 ≤ k.tmod 8 ∧ k.tmod 8 ≤ 7 ∧ (k.tmod 8 + 8) % 8 = (m : Int) ∧ (k.tmod 8 + 8).tmod 8 = (m : Int) := by
  have h1 : -7 ≤ k.tmod 8 ∧ k.tmod 8 ≤ 7 ∧ (k.tmod 8 + 8) % 8 = (m : Int) := by
    rcases Int.le_total 0 k with h0 | h0
    · rw [Int.tmod_eq_emod_of_nonneg h0]; omega
    · obtain ⟨n, rfl⟩ : ∃ n : Int, k = -n := ⟨-k, by omega⟩
      rw [Int.neg_tmod, Int.tmod_eq_emod_of_nonneg (by omega)]; omega
  refine ⟨h1.1, h1.2.1, h1.2.2, ?_⟩
  rw [Int.tmod_eq_emod_of_nonneg (by omega)]; exact h1.2.2
theorem ev2_iff {a b c d : Int} : ev2 a b c d = true ↔ (a + c) % 2 = 0 ∧ (b + d) % 2 = 0 := by
  unfold ev2
  rw [Bool.and_eq_true, beq_iff_eq, beq_iff_eq, ← Int.dvd_iff_tmod_eq_zero, ← Int.dvd_iff_tmod_eq_zero]; omega
theorem ev2_cong {a b c d p q r s : Int} (h : ((a + c) % 2 = 0 ∧ (b + d) % 2 = 0) ↔ ((p + r) % 2 = 0 ∧ (q + s) % 2 = 0)) : ev2 a b c d = ev2 p q r s := by
  rw [Bool.eq_iff_iff, ev2_iff, ev2_iff]; exact h
theorem turn_vd {m : Nat} {x : D5} {e : Nat} (hm : m < 8) (h : vd x.a x.b x.c x.d e = true) : vd (turn m x).a (turn m x).b (turn m x).c (turn m x).d e = true := by
  obtain ⟨h1, h2, h3⟩ := vd_iff.1 h
  refine vd_iff.2 ?_
  rcases lt8 hm with rfl | rfl | rfl | rfl | rfl | rfl | rfl | rfl
  · exact ⟨vr_turn_0 h1, h2, h3.imp id (fun k => by rw [← k]; exact ev2_cong (by show _ ↔ _; simp only [turn]; try omega))⟩
  · exact ⟨vr_turn_1 h1, h2, h3.imp id (fun k => by rw [← k]; exact ev2_cong (by show _ ↔ _; simp only [turn]; try omega))⟩
  · exact ⟨vr_turn_2 h1, h2, h3.imp id (fun k => by rw [← k]; exact ev2_cong (by show _ ↔ _; simp only [turn]; try omega))⟩
  · exact ⟨vr_turn_3 h1, h2, h3.imp id (fun k => by rw [← k]; exact ev2_cong (by show _ ↔ _; simp only [turn]; try omega))⟩
  · exact ⟨vr_turn_4 h1, h2, h3.imp id (fun k => by rw [← k]; exact ev2_cong (by show _ ↔ _; simp only [turn]; try omega))⟩
  · exact ⟨vr_turn_5 h1, h2, h3.imp id (fun k => by rw [← k]; exact ev2_cong (by show _ ↔ _; simp only [turn]; try omega))⟩
  · exact ⟨vr_turn_6 h1, h2, h3.imp id (fun k => by rw [← k]; exact ev2_cong (by show _ ↔ _; simp only [turn]; try omega))⟩
  · exact ⟨vr_turn_7 h1, h2, h3.imp id (fun k => by rw [← k]; exact ev2_cong (by show _ ↔ _; simp only [turn]; try omega))⟩
theorem turn_ok {m : Nat} {x : D5} (hm : m < 8) (hx : x.ok = true) : (turn m x).ok = true := by
  obtain ⟨e, h1, h2⟩ := ok_nat hx
  have := turn_vd hm h2
  unfold D5.ok
  rw [turn_e, h1, vi_nat]
  exact this
theorem mulS_om {m : Nat} {y : D5} (hm : m < 8) (hy : y.ok = true) : mulS false y (omP m) = (turn m y, false) := by
  obtain ⟨e, k1, k2⟩ := ok_nat hy
  have k3 := turn_vd hm k2
  obtain ⟨h1, h2, h3⟩ := vd_iff.1 k3
  have e2 : y.e.toNat = e := by rw [k1]; simp
  have e3 : (omP m).e.toNat = 0 := by unfold omP; rw [turn_e]; rfl
  have q0 : m0 y.a y.b y.c y.d (omP m).a (omP m).b (omP m).c (omP m).d = (turn m y).a := by
    rcases lt8 hm with rfl | rfl | rfl | rfl | rfl | rfl | rfl | rfl <;> simp [m0, omP, turn, one5]
  have q1 : m1 y.a y.b y.c y.d (omP m).a (omP m).b (omP m).c (omP m).d = (turn m y).b := by
    rcases lt8 hm with rfl | rfl | rfl | rfl | rfl | rfl | rfl | rfl <;> simp [m1, omP, turn, one5]
  have q2 : m2 y.a y.b y.c y.d (omP m).a (omP m).b (omP m).c (omP m).d = (turn m y).c := by
    rcases lt8 hm with rfl | rfl | rfl | rfl | rfl | rfl | rfl | rfl <;> simp [m2, omP, turn, one5]
  have q3 : m3 y.a y.b y.c y.d (omP m).a (omP m).b (omP m).c (omP m).d = (turn m y).d := by
    rcases lt8 hm with rfl | rfl | rfl | rfl | rfl | rfl | rfl | rfl <;> simp [m3, omP, turn, one5]
  have e4 : (turn m y).e = (e : Int) := by rw [turn_e, k1]
  unfold mulS
  rw [e2, e3, q0, q1, q2, q3, if_pos (by omega), if_pos h1, Nat.add_zero, low_fix h3]
  unfold ofDy
  dsimp only
  rw [← e4]
theorem omP_ok {m : Nat} (hm : m < 8) : (omP m).ok = true := turn_ok hm one5_ok
theorem omP_v {m : Nat} : (omP m).v = dy (turn m one5).a (turn m one5).b (turn m one5).c (turn m one5).d 0 := by
  show dy _ _ _ _ (turn m one5).e = _
  rw [turn_e]; rfl
theorem mo_i {a b c d e k : Int} {m : Nat} {w : World} (hm : m < 8) (h : k % 8 = (m : Int)) (g1 : -1000 ≤ k) (g2 : k ≤ 1000) (hx : vr a b c d = true) :
    Calls Try.prog 156 #[rg a b c d, .int .i64 k] w fun ee w' => ee = .returned (rt (turn m ⟨a, b, c, d, e⟩).a (turn m ⟨a, b, c, d, e⟩).b (turn m ⟨a, b, c, d, e⟩).c (turn m ⟨a, b, c, d, e⟩).d true) ∧ Below w.heap.size w w' := by
  obtain ⟨t1, t2, t3, t4⟩ := tm8 h hm
  rcases lt8 hm with rfl | rfl | rfl | rfl | rfl | rfl | rfl | rfl
  · exact omega_i_0 a b c d k w t1 t2 t3 t4 g1 g2 hx
  · exact omega_i_1 a b c d k w t1 t2 t3 t4 g1 g2 hx
  · exact omega_i_2 a b c d k w t1 t2 t3 t4 g1 g2 hx
  · exact omega_i_3 a b c d k w t1 t2 t3 t4 g1 g2 hx
  · exact omega_i_4 a b c d k w t1 t2 t3 t4 g1 g2 hx
  · exact omega_i_5 a b c d k w t1 t2 t3 t4 g1 g2 hx
  · exact omega_i_6 a b c d k w t1 t2 t3 t4 g1 g2 hx
  · exact omega_i_7 a b c d k w t1 t2 t3 t4 g1 g2 hx
theorem tn_s {a b c d e k : Int} {m : Nat} {w : World} (hm : m < 8) (h : k % 8 = (m : Int)) (hx : vr a b c d = true) :
    Calls Try.prog 194 #[rg a b c d, .int .i64 k] w fun ee w' => ee = .returned (rg (turn m ⟨a, b, c, d, e⟩).a (turn m ⟨a, b, c, d, e⟩).b (turn m ⟨a, b, c, d, e⟩).c (turn m ⟨a, b, c, d, e⟩).d) ∧ Below w.heap.size w w' := by
  obtain ⟨t1, t2, t3, t4⟩ := tm8 h hm
  rcases lt8 hm with rfl | rfl | rfl | rfl | rfl | rfl | rfl | rfl
  · exact tn_0 a b c d k w t1 t2 t3 t4 hx
  · exact tn_1 a b c d k w t1 t2 t3 t4 hx
  · exact tn_2 a b c d k w t1 t2 t3 t4 hx
  · exact tn_3 a b c d k w t1 t2 t3 t4 hx
  · exact tn_4 a b c d k w t1 t2 t3 t4 hx
  · exact tn_5 a b c d k w t1 t2 t3 t4 hx
  · exact tn_6 a b c d k w t1 t2 t3 t4 hx
  · exact tn_7 a b c d k w t1 t2 t3 t4 hx
theorem mo_1 {k : Int} {m : Nat} {w : World} (hm : m < 8) (h : k % 8 = (m : Int)) (g1 : -1000 ≤ k) (g2 : k ≤ 1000) :
    Calls Try.prog 156 #[rg 1 0 0 0, .int .i64 k] w fun ee w' => ee = .returned (rt (turn m one5).a (turn m one5).b (turn m one5).c (turn m one5).d true) ∧ Below w.heap.size w w' :=
  mo_i (e := 0) hm h g1 g2 (by decide)

set_option maxRecDepth 100000 in
set_option maxHeartbeats 2000000 in
theorem omp {k : Int} {m : Nat} {w : World} (hm : m < 8) (h : k % 8 = (m : Int)) (g1 : -1000 ≤ k) (g2 : k ≤ 1000) :
    Calls Try.prog 101 #[.int .i64 k] w fun ee w' => ee = .returned (omP m).v ∧ Below w.heap.size w w' := by
  rw [omP_v]
  have HM := hid hm
  have HH := hid h
  clear hm h
  go_enter Try.func101, Try.ntmps101
  go_wp2_with (fail)
  refine (mo_1 HM.out HH.out g1 g2).mono ?_
  rintro ee w1 ⟨rfl, hb1⟩
  obtain ⟨hc1, hf1, _⟩ := bcell hb1; have hz1 := hb1.size; (try simp at hz1); (try have hx10 : w.heap.size < w1.heap.size := (by omega)); (try have hx11 : w.heap.size + 1 < w1.heap.size := (by omega)); (try have hx12 : w.heap.size + 1 + 1 < w1.heap.size := (by omega)); (try have hx13 : w.heap.size + 1 + 1 + 1 < w1.heap.size := (by omega))
  go_wp2_with (fail)
  refine bodyPost_ret (v := dy (turn m one5).a (turn m one5).b (turn m one5).c (turn m one5).d 0) (by first | (simp [results, Try.results101, go_sem, *]; done) | (simp (disch := (first | omega | (simp; done) | (simp; omega))) [results, Try.results101, go_sem, *]; done) | (simp only [results, Try.results101]; go_simp; done)) rfl ⟨rfl, ?_⟩
  (repeat' (first | (with_reducible exact Below.refl _ _) | (with_reducible assumption) | (with_reducible refine Below.alloc ?_ ?_ _) | (with_reducible refine Below.drew ?_) | (with_reducible refine below_drewN ?_ _) | (with_reducible refine Below.setCell ?_ ?_ _) | (with_reducible refine chain ?_ (by assumption) ?_) | omega | (simp; done) | (simp; omega)))

end Go.Proofs.Ytnjckeadcbfogaa
namespace Go.Proofs.Ytnjckeadcbfogaa.GM
/-- the number in which qubit q alone is 1 -/
def msk (n q : Nat) : Nat := 2 ^ (n - 1 - q)
def bitI (n k q : Nat) : Nat := bif (k &&& msk n q).beq 0 then 0 else 1
def bitS (n k q : Nat) : Nat := k / msk n q % 2
/-- the program: what a gate of one term makes of a basis state: its number and the power of w (modulo 8) -/
def act (n kind A B c : Nat) : Nat × Nat :=
  match kind with
  | 2 => (c ^^^ msk n A, 0)
  | 3 => (c ^^^ msk n A, 4 * bitI n c A + 2)
  | 4 => (c, 4 * bitI n c A)
  | 5 => (c, 2 * bitI n c A)
  | 6 => (c, (8 - 2 * bitI n c A) % 8)
  | 7 => (c, bitI n c A)
  | 8 => (c, (8 - bitI n c A) % 8)
  | 9 => (bif (bitI n c A).beq 0 then c else c ^^^ msk n B, 0)
  | 10 => (c, 4 * bitI n c A * bitI n c B)
  | 11 => (bif (bitI n c A).beq (bitI n c B) then c else c ^^^ msk n A ^^^ msk n B, 0)
  | _ => (c, 1)
/-- cells by code: 0: zero; 1 + k + 8 e: the k-th power of w by the e-th power of the square root of 2 -/
def gI (n kind A B r c : Nat) : Nat :=
  match kind with
  | 1 => bif r.beq c then 9 + 4 * bitI n c A else bif r.beq (c ^^^ msk n A) then 9 else 0
  | _ => bif r.beq (act n kind A B c).1 then 1 + (act n kind A B c).2 % 8 else 0
def one (kind : Nat) : Nat → Nat :=
  match kind with
  | 1 => fun i => bif i.beq 3 then 13 else 9
  | 2 => fun i => bif i.beq 0 then 0 else bif i.beq 3 then 0 else 1
  | 3 => fun i => bif i.beq 1 then 7 else bif i.beq 2 then 3 else 0
  | k => fun i => bif i.beq 0 then 1 else bif i.beq 3 then (match k with | 4 => 5 | 5 => 3 | 6 => 7 | 7 => 2 | _ => 8) else 0
/-- the model -/
def gS (n kind A B r c : Nat) : Nat :=
  match kind with
  | 12 => bif r.beq c then 2 else 0
  | 9 => bif r.beq (bif (bitS n c A).beq 1 then c ^^^ msk n B else c) then 1 else 0
  | 10 => bif r.beq c then (bif (bitS n c A).beq 1 && (bitS n c B).beq 1 then 5 else 1) else 0
  | 11 => bif r.beq (bif (bitS n c A).beq (bitS n c B) then c else c ^^^ msk n A ^^^ msk n B) then 1 else 0
  | k => bif ((r ^^^ c) - ((r ^^^ c) &&& msk n A)).beq 0 then one k (2 * bitS n r A + bitS n c A) else 0
def allN : Nat → (Nat → Bool) → Bool
  | 0, _ => true
  | n + 1, f => f n && allN n f
theorem allN_get {n : Nat} {f : Nat → Bool} (h : allN n f = true) {k : Nat} (hk : k < n) : f k = true := by
  induction n with
  | zero => omega
  | succ n ih =>
    simp only [allN, Bool.and_eq_true] at h
    by_cases e : k = n
    · subst e; exact h.1
    · exact ih h.2 (by omega)
def chk (n kind A B : Nat) : Bool := allN (2 ^ n) fun r => allN (2 ^ n) fun c => (gI n kind A B r c).beq (gS n kind A B r c)
def chk1 (n : Nat) : Bool := allN n fun A => allN 8 fun k => chk n (k + 1) A 0
def chk2 (n : Nat) : Bool := allN n fun A => allN n fun B => A.beq B || allN 3 fun k => chk n (k + 9) A B
set_option maxRecDepth 1000000 in
theorem c11 : chk1 1 = true := by decide +kernel
set_option maxRecDepth 1000000 in
theorem c12 : chk1 2 = true := by decide +kernel
set_option maxRecDepth 1000000 in
theorem c13 : chk1 3 = true := by decide +kernel
set_option maxRecDepth 1000000 in
theorem c14 : chk1 4 = true := by decide +kernel
set_option maxRecDepth 1000000 in
theorem c22 : chk2 2 = true := by decide +kernel
set_option maxRecDepth 1000000 in
theorem c23 : chk2 3 = true := by decide +kernel
set_option maxRecDepth 1000000 in
theorem c24 : chk2 4 = true := by decide +kernel
set_option maxRecDepth 1000000 in
theorem c15 : chk1 5 = true := by decide +kernel
set_option maxRecDepth 1000000 in
theorem c25 : chk2 5 = true := by decide +kernel
set_option maxRecDepth 1000000 in
theorem cw : (allN 5 fun n => chk (n + 1) 12 0 0) = true := by decide +kernel
/-- a valid gate, by its three numbers -/
def okG (n kind A B : Nat) : Prop := 1 ≤ n ∧ n ≤ 5 ∧ ((1 ≤ kind ∧ kind ≤ 8 ∧ A < n ∧ B = 0) ∨ (9 ≤ kind ∧ kind ≤ 11 ∧ A < n ∧ B < n ∧ A ≠ B) ∨ (kind = 12 ∧ A = 0 ∧ B = 0))
theorem beqEq {a b : Nat} (h : a.beq b = true) : a = b := Nat.eq_of_beq_eq_true h
theorem chk1_n {n : Nat} (h1 : 1 ≤ n) (h2 : n ≤ 5) : chk1 n = true := by
  have : n = 1 ∨ n = 2 ∨ n = 3 ∨ n = 4 ∨ n = 5 := by omega
  rcases this with rfl | rfl | rfl | rfl | rfl
  · exact c11
  · exact c12
  · exact c13
  · exact c14
  · exact c15
theorem chk2_n {n : Nat} (h1 : 2 ≤ n) (h2 : n ≤ 5) : chk2 n = true := by
  have : n = 2 ∨ n = 3 ∨ n = 4 ∨ n = 5 := by omega
  rcases this with rfl | rfl | rfl | rfl
  · exact c22
  · exact c23
  · exact c24
  · exact c25
theorem chk_ok {n kind A B : Nat} (h : okG n kind A B) : chk n kind A B = true := by
  obtain ⟨h1, h2, h3⟩ := h
  rcases h3 with ⟨k1, k2, k3, rfl⟩ | ⟨k1, k2, k3, k4, k5⟩ | ⟨rfl, rfl, rfl⟩
  · have := allN_get (allN_get (chk1_n h1 h2) k3) (k := kind - 1) (by omega)
    rwa [show kind - 1 + 1 = kind by omega] at this
  · have := allN_get (allN_get (chk2_n (by omega) h2) k3) k4
    rw [Bool.or_eq_true] at this
    rcases this with h | h
    · exact absurd (beqEq h) k5
    · have := allN_get h (k := kind - 9) (by omega)
      rwa [show kind - 9 + 9 = kind by omega] at this
  · have := allN_get cw (k := n - 1) (by omega)
    rwa [show n - 1 + 1 = n by omega] at this
theorem gI_gS {n kind A B r c : Nat} (h : okG n kind A B) (hr : r < 2 ^ n) (hc : c < 2 ^ n) : gI n kind A B r c = gS n kind A B r c :=
  beqEq (allN_get (allN_get (chk_ok h) hr) hc)
theorem msk_lt {n q : Nat} (h : q < n) : msk n q < 2 ^ n := Nat.pow_lt_pow_right (by decide) (by omega)
theorem flip_lt {n q c : Nat} (hc : c < 2 ^ n) (h : q < n) : c ^^^ msk n q < 2 ^ n := Nat.xor_lt_two_pow hc (msk_lt h)
theorem pow_le {n : Nat} (h : n ≤ 5) : 2 ^ n ≤ 32 := Nat.pow_le_pow_right (by decide) h
theorem bitI_01 {n c q : Nat} : bitI n c q = 0 ∨ bitI n c q = 1 := by unfold bitI; cases (c &&& msk n q).beq 0 <;> simp
theorem bitI_iff {n c q : Nat} : bitI n c q = 0 ↔ c &&& msk n q = 0 := by
  unfold bitI
  cases h : (c &&& msk n q).beq 0
  · constructor
    · intro h2; simp at h2
    · intro h2; rw [h2] at h; simp at h
  · simp only [cond_true, true_iff]; exact beqEq h
end Go.Proofs.Ytnjckeadcbfogaa.GM
namespace Go.Proofs.Ytnjckeadcbfogaa
open Go.RowKit RM
set_option linter.unusedVariables false
set_option linter.unusedSimpArgs false
def tab (n : Nat) (f : Nat → D5) : List D5 := (List.range n).map f
theorem tab_len (n : Nat) (f : Nat → D5) : (tab n f).length = n := by simp [tab]
theorem tab_succ (n : Nat) (f : Nat → D5) : tab (n + 1) f = tab n f ++ [f n] := by simp [tab, List.range_succ]
theorem tab_get {n : Nat} {f : Nat → D5} {k : Nat} (h : k < n) : (tab n f)[k]? = some (f k) := by simp [tab, h]
theorem tab_congr {n : Nat} {f g : Nat → D5} (h : ∀ q, q < n → f q = g q) : tab n f = tab n g := by
  unfold tab
  exact List.map_congr_left (fun q hq => h q (List.mem_range.1 hq))
theorem tab_set {n : Nat} {f : Nat → D5} {k : Nat} {v : D5} (h : k < n) : (tab n f).set k v = tab n (fun q => if q = k then v else f q) := by
  apply List.ext_getElem?
  intro q
  by_cases hq : q < n
  · rw [List.getElem?_set, tab_get hq, tab_len]
    by_cases hk : k = q
    · subst hk; rw [tab_get h]; simp [h]
    · rw [if_neg hk, tab_get hq, if_neg (fun e => hk e.symm)]
  · rw [List.getElem?_eq_none (by rw [List.length_set, tab_len]; omega), List.getElem?_eq_none (by rw [tab_len]; omega)]
theorem tab_repl (n : Nat) : List.replicate n z5 = tab n (fun _ => z5) := by
  unfold tab
  rw [List.map_const']
  simp
theorem list_tab (xs : List D5) : xs = tab xs.length (fun q => xs.getD q z5) := by
  apply List.ext_getElem?
  intro q
  by_cases hq : q < xs.length
  · rw [tab_get hq, List.getD_eq_getElem?_getD, List.getElem?_eq_getElem hq]; rfl
  · rw [List.getElem?_eq_none (by omega), List.getElem?_eq_none (by rw [tab_len]; omega)]
theorem getD_of {xs : List D5} {q : Nat} {x : D5} (h : xs[q]? = some x) : xs.getD q z5 = x := by rw [List.getD_eq_getElem?_getD, h]; rfl
theorem get_of {xs : List D5} {q : Nat} (h : q < xs.length) : xs[q]? = some (xs.getD q z5) := by rw [List.getD_eq_getElem?_getD, List.getElem?_eq_getElem h]; rfl
theorem Rd.far {W : World} {A : Option Addr} {xs : List D5} (h : Rd W A xs) {p : Addr} (hp : ∀ a, A = some a → a.block ≠ p.block) (u : Value) : Rd (W.setCell p u) A xs := h.at_ fun a ha => Below.heap_setCell _ _ _ _ (hp a ha)
theorem Bk.made' {W : World} {t : TypeId} {n b : Nat} (hb : b = W.heap.size) : Bk (W.alloc (.cells (csL (List.replicate n z5)).toArray t)) b t (List.replicate n z5) := by subst hb; exact Bk.made W t n
/-- a slice value that owns these numbers -/
def Own5 (W : World) (base : Nat) (t : TypeId) (v : Value) (xs : List D5) : Prop := W.ownsRow base t 5 v xs.length (csL xs)
theorem Own5.nil (W : World) (base : Nat) (t : TypeId) : Own5 W base t (.slice none 0 0) [] := World.ownsRow_nil W base t 5
theorem Own5.form {W : World} {base : Nat} {t : TypeId} {v : Value} {xs : List D5} (h : Own5 W base t v xs) : ∃ A cp, v = .slice A xs.length cp ∧ Rd W A xs ∧ (∀ a, A = some a → base ≤ a.block ∧ a.block < W.heap.size) := by
  have hlt := World.ownsRow.lt h
  rcases h.2 with ⟨hv, h0⟩ | ⟨g, cap, cur, hv, hb, hg, hnc, hcm, hcs, htake⟩
  · have hx : xs = [] := List.eq_nil_of_length_eq_zero h0
    subst hx
    exact ⟨none, 0, hv, Rd.nil _ _, fun a ha => by cases ha⟩
  · refine ⟨some ⟨g, 0, none⟩, cap, hv, ?_, fun a ha => by simp only [Option.some.injEq] at ha; subst ha; exact hlt g (by rw [hv]; rfl)⟩
    have hc := World.ownsRow.cells h (g := g) (by rw [hv]; rfl)
    intro k x hk
    obtain ⟨h0, h1, h2, h3, h4⟩ := csL_get hk
    refine ⟨g, 0, rfl, ?_⟩
    have e := fun j => addr_add g 0 j
    exact ⟨by have := hc _ _ h0; rw [e] at this; exact this, by have := hc _ _ h1; rw [e] at this; exact this, by have := hc _ _ h2; rw [e] at this; exact this, by have := hc _ _ h3; rw [e] at this; exact this, by have := hc _ _ h4; rw [e] at this; exact this⟩
theorem Own5.kept {W W' : World} {base : Nat} {t : TypeId} {v : Value} {xs : List D5} {row : Option Nat} (h : Own5 W base t v xs) (hg : W.grownBy W' row) (hne : v.ownBlock = none ∨ v.ownBlock ≠ row) : Own5 W' base t v xs := World.ownsRow.kept h hg hne
theorem Own5.mono {W W' : World} {base : Nat} {t : TypeId} {v : Value} {xs : List D5} (h : Own5 W base t v xs) (hb : Below W.heap.size W W') : Own5 W' base t v xs :=
  h.kept (row := none) (grown_below hb) (by cases v.ownBlock <;> simp)
theorem Own5.far {W : World} {base : Nat} {t : TypeId} {v : Value} {xs : List D5} (h : Own5 W base t v xs) {p : Addr} (hp : p.block < base) (u : Value) : Own5 (W.setCell p u) base t v xs := ownsRow_setCell_below h hp u
theorem Own5.drew {W : World} {base : Nat} {t : TypeId} {v : Value} {xs : List D5} (h : Own5 W base t v xs) : Own5 W.drew base t v xs := h
theorem Own5.snoc {W' : World} {base : Nat} {t : TypeId} {v' : Value} {xs : List D5} {n : Nat} {x : D5} (hn : xs.length = n) (h : W'.ownsRow base t 5 v' (n + 1) (csL xs ++ x.cs)) : Own5 W' base t v' (xs ++ [x]) := by
  unfold Own5
  rw [csL_app, List.length_append, hn]
  have : csL [x] = x.cs := by simp [csL]
  rw [this]
  exact h
end Go.Proofs.Ytnjckeadcbfogaa
namespace Go.Proofs.Ytnjckeadcbfogaa
open Go.RowKit RM
set_option linter.unusedVariables false
set_option linter.unusedSimpArgs false
attribute [local irreducible] World.setCell

open GM
theorem divG {Q i r : Nat} (h : r < Q) : (i * Q + r) / Q = i ∧ (i * Q + r) % Q = r := by
  have hQ : 0 < Q := by omega
  rw [Nat.add_comm, Nat.add_mul_div_right _ _ hQ, Nat.add_mul_mod_self_right, Nat.div_eq_of_lt h, Nat.mod_eq_of_lt h, Nat.zero_add]; exact ⟨rfl, rfl⟩
/-- a power of w by a power of the square root of 2 -/
def cellD (m e : Nat) : D5 := ⟨(turn m one5).a, (turn m one5).b, (turn m one5).c, (turn m one5).d, (e : Int)⟩
/-- a cell by its code -/
def cellC (k : Nat) : D5 := if k = 0 then z5 else cellD ((k - 1) % 8) ((k - 1) / 8)
theorem cellC_at {m e : Nat} (h : m < 8) : cellC (1 + m + 8 * e) = cellD m e := by
  unfold cellC
  rw [if_neg (by omega), show (1 + m + 8 * e - 1) % 8 = m by omega, show (1 + m + 8 * e - 1) / 8 = e by omega]
/-- a cell of a column, of whose terms t are written -/
def cmF (F M : Nat → Nat → Nat) (e : Nat) : Nat → Nat → Nat → D5
  | 0, _, _ => z5
  | t + 1, c, r => if r = F t c then cellD (M t c) e else cmF F M e t c r
def gP (F M : Nat → Nat → Nat) (e D L j t q : Nat) : D5 := if q % D < j then cmF F M e L (q % D) (q / D) else if q % D = j then cmF F M e t (q % D) (q / D) else z5
theorem gP_0 (F M : Nat → Nat → Nat) (e D L n : Nat) : tab n (gP F M e D L 0 0) = List.replicate n z5 := by
  rw [tab_repl]
  refine tab_congr (fun q _ => ?_)
  unfold gP
  rw [if_neg (by omega)]
  split <;> rfl
theorem gP_set {F M : Nat → Nat → Nat} {e D L j t k n : Nat} (hj : j < D) (hk : k = F t j * D + j) (hkn : k < n) : (tab n (gP F M e D L j t)).set k (cellD (M t j) e) = tab n (gP F M e D L j (t + 1)) := by
  rw [tab_set hkn]
  have hd := divG (Q := D) (i := F t j) (r := j) hj
  rw [← hk] at hd
  refine tab_congr (fun q hq => ?_)
  by_cases e : q = k
  · subst e
    rw [if_pos rfl]
    unfold gP
    rw [hd.1, hd.2, if_neg (by omega), if_pos rfl]
    show _ = (if F t j = F t j then _ else _)
    rw [if_pos rfl]
  · rw [if_neg e]
    unfold gP
    by_cases h1 : q % D < j
    · rw [if_pos h1, if_pos h1]
    · rw [if_neg h1, if_neg h1]
      by_cases h2 : q % D = j
      · rw [if_pos h2, if_pos h2]
        show _ = (if q / D = F t (q % D) then _ else _)
        rw [if_neg]
        intro h3
        apply e
        have := Nat.div_add_mod q D
        rw [h3, h2, Nat.mul_comm] at this
        rw [hk]; exact this.symm
      · rw [if_neg h2, if_neg h2]
theorem gP_next (F M : Nat → Nat → Nat) (e D L j n : Nat) : tab n (gP F M e D L j L) = tab n (gP F M e D L (j + 1) 0) := by
  refine tab_congr (fun q _ => ?_)
  unfold gP
  by_cases h1 : q % D < j
  · rw [if_pos h1, if_pos (by omega)]
  · rw [if_neg h1]
    by_cases h2 : q % D = j
    · rw [if_pos h2, if_pos (by omega)]
    · rw [if_neg h2, if_neg (by omega)]
      split <;> rfl
theorem gP_all {F M : Nat → Nat → Nat} {e D L n : Nat} (hD : 0 < D) : tab n (gP F M e D L D 0) = tab n (fun q => cmF F M e L (q % D) (q / D)) := by
  refine tab_congr (fun q _ => ?_)
  unfold gP
  rw [if_pos (Nat.mod_lt _ hD)]
theorem pow_dim {n D : Nat} (h1 : 1 ≤ n) (h5 : n ≤ 5) (hD : D = 2 ^ n) : 2 ≤ D ∧ D ≤ 32 ∧ wrap64 ((2 : Int) ^ n) = (D : Int) ∧ IntKind.i64.wrap ((2 : Int) ^ n) = (D : Int) ∧ dimB (D : Int) = true := by
  have : n = 1 ∨ n = 2 ∨ n = 3 ∨ n = 4 ∨ n = 5 := by omega
  rcases this with rfl | rfl | rfl | rfl | rfl <;> subst hD <;> exact ⟨by decide, by decide, by decide +kernel, by decide +kernel, by decide⟩

end Go.Proofs.Ytnjckeadcbfogaa
