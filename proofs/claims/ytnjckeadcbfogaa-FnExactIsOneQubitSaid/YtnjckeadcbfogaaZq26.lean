/- MxA -/
import Derived.Test.YtnjckeadcbfogaaZq9
import Derived.Test.YtnjckeadcbfogaaZq20
import Derived.Test.YtnjckeadcbfogaaZq21
import Derived.Test.YtnjckeadcbfogaaZq23
import Derived.Test.YtnjckeadcbfogaaZq25
import Derived.Test.YtnjckeadcbfogaaZq24
namespace Go.Proofs.Ytnjckeadcbfogaa
open Go.RowKit RM
set_option linter.unusedVariables false
set_option linter.unusedSimpArgs false
attribute [local irreducible] World.setCell

theorem raisS_t (n : Nat) : ∀ {a b c d : Int}, (raisS n a b c d true).2 = true := by
  induction n with
  | zero => intro a b c d; rfl
  | succ n ih => intro a b c d; rw [raisS]; split <;> exact ih
theorem raisS_0 (n : Nat) : ∀ {z : Bool}, raisS n 0 0 0 0 z = (⟨0, 0, 0, 0⟩, z) := by
  induction n with
  | zero => intro z; rfl
  | succ n ih => intro z; rw [raisS, if_pos (by decide)]; exact ih
theorem low_0 (n : Nat) : low n 0 0 0 0 = ⟨0, 0, 0, 0, 0⟩ := by
  induction n with
  | zero => rfl
  | succ n ih => rw [low, if_pos (by decide)]; exact ih

/-- the model's sum: the number and whether a failure is remembered -/
def addR (z : Bool) (x y : D5) : R4 × R4 × Bool :=
  let p := raisS (y.e.toNat - x.e.toNat) x.a x.b x.c x.d z
  let q := raisS (x.e.toNat - y.e.toNat) y.a y.b y.c y.d p.2
  (p.1, q.1, q.2)
def addS (z : Bool) (x y : D5) : D5 × Bool :=
  let r := addR z x y
  if vr (r.1.a + r.2.1.a) (r.1.b + r.2.1.b) (r.1.c + r.2.1.c) (r.1.d + r.2.1.d) then (ofDy (low (x.e.toNat + (y.e.toNat - x.e.toNat)) (r.1.a + r.2.1.a) (r.1.b + r.2.1.b) (r.1.c + r.2.1.c) (r.1.d + r.2.1.d)), r.2.2)
  else (ofDy (low (x.e.toNat + (y.e.toNat - x.e.toNat)) 0 0 0 0), true)
/-- the model's product -/
def mulS (z : Bool) (x y : D5) : D5 × Bool :=
  if x.e.toNat + y.e.toNat ≤ 60 then
    if vr (m0 x.a x.b x.c x.d y.a y.b y.c y.d) (m1 x.a x.b x.c x.d y.a y.b y.c y.d) (m2 x.a x.b x.c x.d y.a y.b y.c y.d) (m3 x.a x.b x.c x.d y.a y.b y.c y.d) then (ofDy (low (x.e.toNat + y.e.toNat) (m0 x.a x.b x.c x.d y.a y.b y.c y.d) (m1 x.a x.b x.c x.d y.a y.b y.c y.d) (m2 x.a x.b x.c x.d y.a y.b y.c y.d) (m3 x.a x.b x.c x.d y.a y.b y.c y.d)), z)
    else (ofDy (low (x.e.toNat + y.e.toNat) 0 0 0 0), true)
  else (z5, true)
theorem addS_ok {z : Bool} {x y : D5} (hx : x.ok = true) (hy : y.ok = true) : (addS z x y).1.ok = true := by
  obtain ⟨e, h1, h2⟩ := ok_nat hx
  obtain ⟨f, k1, k2⟩ := ok_nat hy
  have he := (vd_iff.1 h2).2.1
  have hf := (vd_iff.1 k2).2.1
  have hs : x.e.toNat + (y.e.toNat - x.e.toNat) ≤ 60 := by rw [h1, k1]; simp; omega
  unfold addS
  dsimp only
  split
  · rename_i hv; exact ok_low hv hs
  · exact ok_low (by decide) hs
theorem addS_t {x y : D5} : (addS true x y).2 = true := by
  unfold addS addR
  dsimp only
  split
  · rw [raisS_t]
    exact raisS_t _
  · rfl
theorem mulS_ok {z : Bool} {x y : D5} (hx : x.ok = true) (hy : y.ok = true) : (mulS z x y).1.ok = true := by
  unfold mulS
  split
  · rename_i hs
    split
    · rename_i hv; exact ok_low hv hs
    · exact ok_low (by decide) hs
  · exact z5_ok
theorem mulS_z {z : Bool} {y : D5} (hy : y.ok = true) : mulS z z5 y = (z5, z) := by
  obtain ⟨f, k1, k2⟩ := ok_nat hy
  have hf := (vd_iff.1 k2).2.1
  unfold mulS z5
  have h0 : ∀ p q r s : Int, m0 0 0 0 0 p q r s = 0 := by intros; simp [m0]
  have h1 : ∀ p q r s : Int, m1 0 0 0 0 p q r s = 0 := by intros; simp [m1]
  have h2 : ∀ p q r s : Int, m2 0 0 0 0 p q r s = 0 := by intros; simp [m2]
  have h3 : ∀ p q r s : Int, m3 0 0 0 0 p q r s = 0 := by intros; simp [m3]
  simp only [h0, h1, h2, h3, low_0]
  rw [if_pos (by rw [k1]; simp; omega), if_pos (by decide)]
  rfl
theorem addS_z {z : Bool} {x : D5} (hx : x.ok = true) : addS z x z5 = (x, z) := by
  obtain ⟨a, b, c, d, e'⟩ := x
  obtain ⟨e, k1, k2⟩ := ok_nat hx
  dsimp only at k1 k2
  subst k1
  obtain ⟨h1, h2, h3⟩ := vd_iff.1 k2
  have e1 : (z5.e.toNat - ((e : Int)).toNat) = 0 := by simp [z5]
  have e2 : ((e : Int)).toNat = e := by simp
  unfold addS addR
  dsimp only
  rw [e1, e2]
  simp only [z5, raisS, Int.toNat_zero, Nat.sub_zero, raisS_0, Int.add_zero, Nat.add_zero, h1, if_true, low_fix h3]
  rfl

theorem cadd {x y : D5} {z : Bool} {g : Nat} {w : World} (hx : x.ok = true) (hy : y.ok = true) (h0 : w.cell? ⟨g, 0, none⟩ = some (.bool z)) (f0 : w.frozen? ⟨g, 0, none⟩ = false) :
    Calls Try.prog 108 #[.pointer (some ⟨g, 0, none⟩), x.v, y.v] w fun ee w' => ee = .returned (addS z x y).1.v ∧ Below w.heap.size (w.setCell ⟨g, 0, none⟩ (.bool (addS z x y).2)) w' := by
  obtain ⟨a, b, c, d, e'⟩ := x
  obtain ⟨p, q, r, s, f'⟩ := y
  obtain ⟨e, h1, h2⟩ := ok_nat hx
  obtain ⟨f, k1, k2⟩ := ok_nat hy
  dsimp only at h1 h2 k1 k2
  subst h1 k1
  obtain ⟨vx, ex, _⟩ := vd_iff.1 h2
  obtain ⟨vy, ey, _⟩ := vd_iff.1 k2
  unfold addS addR
  simp only [Int.toNat_natCast]
  rcases hr1 : raisS (f - e) a b c d z with ⟨⟨A, B, C, D⟩, z1⟩
  rcases hr2 : raisS (e - f) p q r s z1 with ⟨⟨P, Q, R, S⟩, z2⟩
  cases hv : vr (A + P) (B + Q) (C + R) (D + S)
  · simp only [Bool.false_eq_true, if_false]
    rcases hl : low (e + (f - e)) 0 0 0 0 with ⟨L, M, N, O, E⟩
    exact ladd_f _ _ _ _ _ _ _ _ _ _ g _ _ _ _ _ _ _ _ _ _ _ _ _ _ _ _ w h0 f0 ex ey vx vy hr1 hr2 hv hl
  · simp only [if_true]
    rcases hl : low (e + (f - e)) (A + P) (B + Q) (C + R) (D + S) with ⟨L, M, N, O, E⟩
    exact ladd_t _ _ _ _ _ _ _ _ _ _ g _ _ _ _ _ _ _ _ _ _ _ _ _ _ _ _ w h0 f0 ex ey vx vy hr1 hr2 hv hl

theorem cmul {x y : D5} {z : Bool} {g : Nat} {w : World} (hx : x.ok = true) (hy : y.ok = true) (h0 : w.cell? ⟨g, 0, none⟩ = some (.bool z)) (f0 : w.frozen? ⟨g, 0, none⟩ = false) :
    Calls Try.prog 109 #[.pointer (some ⟨g, 0, none⟩), x.v, y.v] w fun ee w' => ee = .returned (mulS z x y).1.v ∧ Below w.heap.size (w.setCell ⟨g, 0, none⟩ (.bool (mulS z x y).2)) w' := by
  obtain ⟨a, b, c, d, e'⟩ := x
  obtain ⟨p, q, r, s, f'⟩ := y
  obtain ⟨e, h1, h2⟩ := ok_nat hx
  obtain ⟨f, k1, k2⟩ := ok_nat hy
  dsimp only at h1 h2 k1 k2
  subst h1 k1
  obtain ⟨vx, ex, _⟩ := vd_iff.1 h2
  obtain ⟨vy, ey, _⟩ := vd_iff.1 k2
  unfold mulS
  simp only [Int.toNat_natCast]
  by_cases hs : e + f ≤ 60
  · rw [if_pos hs]
    cases hv : vr (m0 a b c d p q r s) (m1 a b c d p q r s) (m2 a b c d p q r s) (m3 a b c d p q r s)
    · simp only [Bool.false_eq_true, if_false]
      rcases hl : low (e + f) 0 0 0 0 with ⟨L, M, N, O, E⟩
      exact lmul_o _ _ _ _ _ _ _ _ _ _ g _ _ _ _ _ _ w h0 f0 ex ey vx vy hs hv hl
    · simp only [if_true]
      rcases hl : low (e + f) (m0 a b c d p q r s) (m1 a b c d p q r s) (m2 a b c d p q r s) (m3 a b c d p q r s) with ⟨L, M, N, O, E⟩
      exact lmul_t _ _ _ _ _ _ _ _ _ _ g _ _ _ _ _ _ w h0 f0 ex ey vx vy hs hv hl
  · rw [if_neg hs]
    exact lmul_x _ _ _ _ _ _ _ _ _ _ g _ w h0 f0 ex ey hs

theorem addS_eq {a b c d : Int} {e : Nat} {p q r s : Int} {f : Nat} {A B C D P Q R S : Int} {z1 z2 : Bool} (h1 : raisS (f - e) a b c d false = (⟨A, B, C, D⟩, z1)) (h2 : raisS (e - f) p q r s z1 = (⟨P, Q, R, S⟩, z2)) :
    addS false ⟨a, b, c, d, e⟩ ⟨p, q, r, s, f⟩ = if vr (A + P) (B + Q) (C + R) (D + S) then (ofDy (low (e + (f - e)) (A + P) (B + Q) (C + R) (D + S)), z2) else (ofDy (low (e + (f - e)) 0 0 0 0), true) := by
  unfold addS addR
  simp only [Int.toNat_natCast]
  rw [h1]
  dsimp only
  rw [h2]
theorem iadd_key {a b c d : Int} {e : Nat} {p q r s : Int} {f : Nat} (hx : vd a b c d e = true) (hy : vd p q r s f = true) (w : World) :
    ((addS false ⟨a, b, c, d, e⟩ ⟨p, q, r, s, f⟩).2 = true ∧ Calls Try.prog 114 #[dy a b c d (e : Int), dy p q r s (f : Int)] w fun ee w' => ee = .returned (dt 0 0 0 0 0 false) ∧ Below w.heap.size w w') ∨
    ∃ L M N O E : Int, addS false ⟨a, b, c, d, e⟩ ⟨p, q, r, s, f⟩ = (⟨L, M, N, O, E⟩, false) ∧ Calls Try.prog 114 #[dy a b c d (e : Int), dy p q r s (f : Int)] w fun ee w' => ee = .returned (dt L M N O E true) ∧ Below w.heap.size w w' := by
  obtain ⟨vx, ex, _⟩ := vd_iff.1 hx
  obtain ⟨vy, ey, _⟩ := vd_iff.1 hy
  rcases hr : rais (f - e) a b c d with _ | ⟨A, B, C, D⟩
  · have hlt : e < f := by
      apply Nat.lt_of_not_le; intro hh
      rw [Nat.sub_eq_zero_of_le hh] at hr; cases hr
    obtain ⟨A, B, C, D, h1, _⟩ := raisS_none _ vx hr
    have h2 : raisS (e - f) p q r s true = (⟨p, q, r, s⟩, true) := by rw [Nat.sub_eq_zero_of_le (Nat.le_of_lt hlt)]; rfl
    exact Or.inl ⟨by rw [addS_eq h1 h2]; split <;> rfl, addD_i_lt_n _ _ _ _ _ _ _ _ _ _ 0 0 0 0 0 0 0 0 0 0 0 0 0 w hlt hx hy hr⟩
  · obtain ⟨h1, v1⟩ := raisS_some _ vx hr
    rcases hs : rais (e - f) p q r s with _ | ⟨P, Q, R, S⟩
    · have hlt : f < e := by
        apply Nat.lt_of_not_le; intro hh
        rw [Nat.sub_eq_zero_of_le hh] at hs; cases hs
      obtain ⟨P, Q, R, S, h2, _⟩ := raisS_none _ vy hs
      exact Or.inl ⟨by rw [addS_eq h1 h2]; split <;> rfl, addD_i_gt_n _ _ _ _ _ _ _ _ _ _ 0 0 0 0 0 0 0 0 0 0 0 0 0 w hlt hx hy hs⟩
    · obtain ⟨h2, v2⟩ := raisS_some _ vy hs
      rcases Nat.lt_trichotomy e f with hc | hc | hc
      · have hP : (⟨p, q, r, s⟩ : R4) = ⟨P, Q, R, S⟩ := by rw [Nat.sub_eq_zero_of_le (Nat.le_of_lt hc)] at hs; simpa [rais] using hs
        simp only [R4.mk.injEq] at hP
        obtain ⟨rfl, rfl, rfl, rfl⟩ := hP
        have hef : e + (f - e) = f := by omega
        cases hv : vr (A + p) (B + q) (C + r) (D + s)
        · exact Or.inl ⟨by rw [addS_eq h1 h2, if_neg (by rw [hv]; decide)], addD_i_lt_o _ _ _ _ _ _ _ _ _ _ A B C D 0 0 0 0 0 0 0 0 0 w hc hx hy hr hv⟩
        · rcases hl : low (e + (f - e)) (A + p) (B + q) (C + r) (D + s) with ⟨L, M, N, O, E⟩
          exact Or.inr ⟨L, M, N, O, E, by rw [addS_eq h1 h2, if_pos hv, hl]; rfl, addD_i_lt_t _ _ _ _ _ _ _ _ _ _ A B C D 0 0 0 0 _ _ _ _ _ w hc hx hy hr hv (by rw [← hl, hef])⟩
      · subst hc
        rw [Nat.sub_self] at hr hs
        have hA : (⟨a, b, c, d⟩ : R4) = ⟨A, B, C, D⟩ := by simpa [rais] using hr
        have hP : (⟨p, q, r, s⟩ : R4) = ⟨P, Q, R, S⟩ := by simpa [rais] using hs
        simp only [R4.mk.injEq] at hA hP
        obtain ⟨rfl, rfl, rfl, rfl⟩ := hA
        obtain ⟨rfl, rfl, rfl, rfl⟩ := hP
        have hef : e + (e - e) = e := by omega
        cases hv : vr (a + p) (b + q) (c + r) (d + s)
        · exact Or.inl ⟨by rw [addS_eq h1 h2, if_neg (by rw [hv]; decide)], addD_i_eq_o _ _ _ _ _ _ _ _ _ _ 0 0 0 0 0 0 0 0 0 0 0 0 0 w rfl hx hy hv⟩
        · rcases hl : low (e + (e - e)) (a + p) (b + q) (c + r) (d + s) with ⟨L, M, N, O, E⟩
          exact Or.inr ⟨L, M, N, O, E, by rw [addS_eq h1 h2, if_pos hv, hl]; rfl, addD_i_eq_t _ _ _ _ _ _ _ _ _ _ 0 0 0 0 0 0 0 0 _ _ _ _ _ w rfl hx hy hv (by rw [← hl, hef])⟩
      · have hA : (⟨a, b, c, d⟩ : R4) = ⟨A, B, C, D⟩ := by rw [Nat.sub_eq_zero_of_le (Nat.le_of_lt hc)] at hr; simpa [rais] using hr
        simp only [R4.mk.injEq] at hA
        obtain ⟨rfl, rfl, rfl, rfl⟩ := hA
        have hef : e + (f - e) = e := by omega
        cases hv : vr (a + P) (b + Q) (c + R) (d + S)
        · exact Or.inl ⟨by rw [addS_eq h1 h2, if_neg (by rw [hv]; decide)], addD_i_gt_o _ _ _ _ _ _ _ _ _ _ 0 0 0 0 P Q R S 0 0 0 0 0 w hc hx hy hs (by rw [Int.add_comm P a, Int.add_comm Q b, Int.add_comm R c, Int.add_comm S d]; exact hv)⟩
        · rcases hl : low (e + (f - e)) (a + P) (b + Q) (c + R) (d + S) with ⟨L, M, N, O, E⟩
          exact Or.inr ⟨L, M, N, O, E, by rw [addS_eq h1 h2, if_pos hv, hl]; rfl, addD_i_gt_t _ _ _ _ _ _ _ _ _ _ 0 0 0 0 P Q R S _ _ _ _ _ w hc hx hy hs (by rw [Int.add_comm P a, Int.add_comm Q b, Int.add_comm R c, Int.add_comm S d]; exact hv) (by rw [Int.add_comm P a, Int.add_comm Q b, Int.add_comm R c, Int.add_comm S d, ← hl, hef])⟩
/-- the program's sum of two valid numbers: it fails, or is the model's -/
theorem iadd_f {x y : D5} (hx : x.ok = true) (hy : y.ok = true) (h : (addS false x y).2 = true) (w : World) :
    Calls Try.prog 114 #[x.v, y.v] w fun ee w' => ee = .returned (dt 0 0 0 0 0 false) ∧ Below w.heap.size w w' := by
  obtain ⟨a, b, c, d, e'⟩ := x
  obtain ⟨p, q, r, s, f'⟩ := y
  obtain ⟨e, h1, h2⟩ := ok_nat hx
  obtain ⟨f, k1, k2⟩ := ok_nat hy
  dsimp only at h1 h2 k1 k2
  subst h1 k1
  rcases iadd_key h2 k2 w with ⟨_, hc⟩ | ⟨L, M, N, O, E, hk, _⟩
  · exact hc
  · rw [hk] at h; cases h
theorem iadd_t {x y : D5} (hx : x.ok = true) (hy : y.ok = true) (h : (addS false x y).2 = false) (w : World) :
    Calls Try.prog 114 #[x.v, y.v] w fun ee w' => ee = .returned (.tuple #[(addS false x y).1.v, .bool true]) ∧ Below w.heap.size w w' := by
  obtain ⟨a, b, c, d, e'⟩ := x
  obtain ⟨p, q, r, s, f'⟩ := y
  obtain ⟨e, h1, h2⟩ := ok_nat hx
  obtain ⟨f, k1, k2⟩ := ok_nat hy
  dsimp only at h1 h2 k1 k2
  subst h1 k1
  rcases iadd_key h2 k2 w with ⟨hk, _⟩ | ⟨L, M, N, O, E, hk, hc⟩
  · rw [hk] at h; cases h
  · rw [hk]; exact hc
theorem imul_f {x y : D5} (hx : x.ok = true) (hy : y.ok = true) (h : (mulS false x y).2 = true) (w : World) :
    Calls Try.prog 159 #[x.v, y.v] w fun ee w' => ee = .returned (dt 0 0 0 0 0 false) ∧ Below w.heap.size w w' := by
  obtain ⟨a, b, c, d, e'⟩ := x
  obtain ⟨p, q, r, s, f'⟩ := y
  obtain ⟨e, h1, h2⟩ := ok_nat hx
  obtain ⟨f, k1, k2⟩ := ok_nat hy
  dsimp only at h1 h2 k1 k2
  subst h1 k1
  unfold mulS at h
  simp only [Int.toNat_natCast] at h
  cases hv : vr (m0 a b c d p q r s) (m1 a b c d p q r s) (m2 a b c d p q r s) (m3 a b c d p q r s)
  · exact mulD_i_o _ _ _ _ _ _ _ _ _ _ w h2 k2 hv
  · by_cases hs : e + f ≤ 60
    · rw [if_pos hs, if_pos hv] at h; cases h
    · exact mulD_i_x _ _ _ _ _ _ _ _ _ _ w h2 k2 hs hv
theorem imul_t {x y : D5} (hx : x.ok = true) (hy : y.ok = true) (h : (mulS false x y).2 = false) (w : World) :
    Calls Try.prog 159 #[x.v, y.v] w fun ee w' => ee = .returned (.tuple #[(mulS false x y).1.v, .bool true]) ∧ Below w.heap.size w w' := by
  obtain ⟨a, b, c, d, e'⟩ := x
  obtain ⟨p, q, r, s, f'⟩ := y
  obtain ⟨e, h1, h2⟩ := ok_nat hx
  obtain ⟨f, k1, k2⟩ := ok_nat hy
  dsimp only at h1 h2 k1 k2
  subst h1 k1
  unfold mulS at h ⊢
  simp only [Int.toNat_natCast] at h ⊢
  by_cases hs : e + f ≤ 60
  · cases hv : vr (m0 a b c d p q r s) (m1 a b c d p q r s) (m2 a b c d p q r s) (m3 a b c d p q r s)
    · rw [if_pos hs, if_neg (by rw [hv]; decide)] at h; cases h
    · rw [if_pos hs, if_pos rfl]
      rcases hl : low (e + f) (m0 a b c d p q r s) (m1 a b c d p q r s) (m2 a b c d p q r s) (m3 a b c d p q r s) with ⟨L, M, N, O, E⟩
      exact mulD_i_t _ _ _ _ _ _ _ _ _ _ _ _ _ _ _ w h2 k2 hs hv hl
  · rw [if_neg hs] at h; cases h
attribute [irreducible] addS mulS
end Go.Proofs.Ytnjckeadcbfogaa
