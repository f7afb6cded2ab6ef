/- MxA, BlP, Vm1 -/
import Derived.Test.YtofclfgaekjonaaZq2
import Derived.Test.YtofclfgaekjonaaZq5
import Derived.Test.YtofclfgaekjonaaZq6
import Derived.Test.YtofclfgaekjonaaZq7
import Derived.Test.YtofclfgaekjonaaZq8
import Derived.Test.YtofclfgaekjonaaZq3
namespace Go.Proofs.Ytofclfgaekjonaa
open Go.RowKit RM
set_option linter.unusedVariables false
set_option linter.unusedSimpArgs false
attribute [local irreducible] World.setCell

theorem raisS_t (n : Nat) : ∀ {a b c d : Int}, (raisS n a b c d true).2 = true := by
  induction n with
  | zero => intro a b c d; rfl
  | succ n ih => intro a b c d; rw [raisS]; split <;> exact ih
theorem raisS_0 (n : Nat) : ∀ {z : Bool}, raisS n 0 0 0 0 z = (⟨0, 0, 0, 0⟩, z) := by
  induction n with
  | zero => intro z; rfl
  | succ n ih => intro z; rw [raisS, if_pos (by decide)]; exact ih
theorem low_0 (n : Nat) : low n 0 0 0 0 = ⟨0, 0, 0, 0, 0⟩ := by
  induction n with
  | zero => rfl
  | succ n ih => rw [low, if_pos (by decide)]; exact ih

/-- the model's sum: the number and whether a failure is remembered -/
def addR (z : Bool) (x y : D5) : R4 × R4 × Bool :=
  let p := raisS (y.e.toNat - x.e.toNat) x.a x.b x.c x.d z
  let q := raisS (x.e.toNat - y.e.toNat) y.a y.b y.c y.d p.2
  (p.1, q.1, q.2)
def addS (z : Bool) (x y : D5) : D5 × Bool :=
  let r := addR z x y
  if vr (r.1.a + r.2.1.a) (r.1.b + r.2.1.b) (r.1.c + r.2.1.c) (r.1.d + r.2.1.d) then (ofDy (low (x.e.toNat + (y.e.toNat - x.e.toNat)) (r.1.a + r.2.1.a) (r.1.b + r.2.1.b) (r.1.c + r.2.1.c) (r.1.d + r.2.1.d)), r.2.2)
  else (ofDy (low (x.e.toNat + (y.e.toNat - x.e.toNat)) 0 0 0 0), true)
/-- the model's product -/
def mulS (z : Bool) (x y : D5) : D5 × Bool :=
  if x.e.toNat + y.e.toNat ≤ 60 then
    if vr (m0 x.a x.b x.c x.d y.a y.b y.c y.d) (m1 x.a x.b x.c x.d y.a y.b y.c y.d) (m2 x.a x.b x.c x.d y.a y.b y.c y.d) (m3 x.a x.b x.c x.d y.a y.b y.c y.d) then (ofDy (low (x.e.toNat + y.e.toNat) (m0 x.a x.b x.c x.d y.a y.b y.c y.d) (m1 x.a x.b x.c x.d y.a y.b y.c y.d) (m2 x.a x.b x.c x.d y.a y.b y.c y.d) (m3 x.a x.b x.c x.d y.a y.b y.c y.d)), z)
    else (ofDy (low (x.e.toNat + y.e.toNat) 0 0 0 0), true)
  else (z5, true)
theorem addS_ok {z : Bool} {x y : D5} (hx : x.ok = true) (hy : y.ok = true) : (addS z x y).1.ok = true := by
  obtain ⟨e, h1, h2⟩ := ok_nat hx
  obtain ⟨f, k1, k2⟩ := ok_nat hy
  have he := (vd_iff.1 h2).2.1
  have hf := (vd_iff.1 k2).2.1
  have hs : x.e.toNat + (y.e.toNat - x.e.toNat) ≤ 60 := by rw [h1, k1]; simp; omega
  unfold addS
  dsimp only
  split
  · rename_i hv; exact ok_low hv hs
  · exact ok_low (by decide) hs
theorem addS_t {x y : D5} : (addS true x y).2 = true := by
  unfold addS addR
  dsimp only
  split
  · rw [raisS_t]
    exact raisS_t _
  · rfl
theorem mulS_ok {z : Bool} {x y : D5} (hx : x.ok = true) (hy : y.ok = true) : (mulS z x y).1.ok = true := by
  unfold mulS
  split
  · rename_i hs
    split
    · rename_i hv; exact ok_low hv hs
    · exact ok_low (by decide) hs
  · exact z5_ok
theorem mulS_z {z : Bool} {y : D5} (hy : y.ok = true) : mulS z z5 y = (z5, z) := by
  obtain ⟨f, k1, k2⟩ := ok_nat hy
  have hf := (vd_iff.1 k2).2.1
  unfold mulS z5
  have h0 : ∀ p q r s : Int, m0 0 0 0 0 p q r s = 0 := by intros; simp [m0]
  have h1 : ∀ p q r s : Int, m1 0 0 0 0 p q r s = 0 := by intros; simp [m1]
  have h2 : ∀ p q r s : Int, m2 0 0 0 0 p q r s = 0 := by intros; simp [m2]
  have h3 : ∀ p q r s : Int, m3 0 0 0 0 p q r s = 0 := by intros; simp [m3]
  simp only [h0, h1, h2, h3, low_0]
  rw [if_pos (by rw [k1]; simp; omega), if_pos (by decide)]
  rfl
theorem addS_z {z : Bool} {x : D5} (hx : x.ok = true) : addS z x z5 = (x, z) := by
  obtain ⟨a, b, c, d, e'⟩ := x
  obtain ⟨e, k1, k2⟩ := ok_nat hx
  dsimp only at k1 k2
  subst k1
  obtain ⟨h1, h2, h3⟩ := vd_iff.1 k2
  have e1 : (z5.e.toNat - ((e : Int)).toNat) = 0 := by simp [z5]
  have e2 : ((e : Int)).toNat = e := by simp
  unfold addS addR
  dsimp only
  rw [e1, e2]
  simp only [z5, raisS, Int.toNat_zero, Nat.sub_zero, raisS_0, Int.add_zero, Nat.add_zero, h1, if_true, low_fix h3]
  rfl

theorem cadd {x y : D5} {z : Bool} {g : Nat} {w : World} (hx : x.ok = true) (hy : y.ok = true) (h0 : w.cell? ⟨g, 0, none⟩ = some (.bool z)) (f0 : w.frozen? ⟨g, 0, none⟩ = false) :
    Calls Try.prog 125 #[.pointer (some ⟨g, 0, none⟩), x.v, y.v] w fun ee w' => ee = .returned (addS z x y).1.v ∧ Below w.heap.size (w.setCell ⟨g, 0, none⟩ (.bool (addS z x y).2)) w' := by
  obtain ⟨a, b, c, d, e'⟩ := x
  obtain ⟨p, q, r, s, f'⟩ := y
  obtain ⟨e, h1, h2⟩ := ok_nat hx
  obtain ⟨f, k1, k2⟩ := ok_nat hy
  dsimp only at h1 h2 k1 k2
  subst h1 k1
  obtain ⟨vx, ex, _⟩ := vd_iff.1 h2
  obtain ⟨vy, ey, _⟩ := vd_iff.1 k2
  unfold addS addR
  simp only [Int.toNat_natCast]
  rcases hr1 : raisS (f - e) a b c d z with ⟨⟨A, B, C, D⟩, z1⟩
  rcases hr2 : raisS (e - f) p q r s z1 with ⟨⟨P, Q, R, S⟩, z2⟩
  cases hv : vr (A + P) (B + Q) (C + R) (D + S)
  · simp only [Bool.false_eq_true, if_false]
    rcases hl : low (e + (f - e)) 0 0 0 0 with ⟨L, M, N, O, E⟩
    exact ladd_f _ _ _ _ _ _ _ _ _ _ g _ _ _ _ _ _ _ _ _ _ _ _ _ _ _ _ w h0 f0 ex ey vx vy hr1 hr2 hv hl
  · simp only [if_true]
    rcases hl : low (e + (f - e)) (A + P) (B + Q) (C + R) (D + S) with ⟨L, M, N, O, E⟩
    exact ladd_t _ _ _ _ _ _ _ _ _ _ g _ _ _ _ _ _ _ _ _ _ _ _ _ _ _ _ w h0 f0 ex ey vx vy hr1 hr2 hv hl

theorem cmul {x y : D5} {z : Bool} {g : Nat} {w : World} (hx : x.ok = true) (hy : y.ok = true) (h0 : w.cell? ⟨g, 0, none⟩ = some (.bool z)) (f0 : w.frozen? ⟨g, 0, none⟩ = false) :
    Calls Try.prog 123 #[.pointer (some ⟨g, 0, none⟩), x.v, y.v] w fun ee w' => ee = .returned (mulS z x y).1.v ∧ Below w.heap.size (w.setCell ⟨g, 0, none⟩ (.bool (mulS z x y).2)) w' := by
  obtain ⟨a, b, c, d, e'⟩ := x
  obtain ⟨p, q, r, s, f'⟩ := y
  obtain ⟨e, h1, h2⟩ := ok_nat hx
  obtain ⟨f, k1, k2⟩ := ok_nat hy
  dsimp only at h1 h2 k1 k2
  subst h1 k1
  obtain ⟨vx, ex, _⟩ := vd_iff.1 h2
  obtain ⟨vy, ey, _⟩ := vd_iff.1 k2
  unfold mulS
  simp only [Int.toNat_natCast]
  by_cases hs : e + f ≤ 60
  · rw [if_pos hs]
    cases hv : vr (m0 a b c d p q r s) (m1 a b c d p q r s) (m2 a b c d p q r s) (m3 a b c d p q r s)
    · simp only [Bool.false_eq_true, if_false]
      rcases hl : low (e + f) 0 0 0 0 with ⟨L, M, N, O, E⟩
      exact lmul_o _ _ _ _ _ _ _ _ _ _ g _ _ _ _ _ _ w h0 f0 ex ey vx vy hs hv hl
    · simp only [if_true]
      rcases hl : low (e + f) (m0 a b c d p q r s) (m1 a b c d p q r s) (m2 a b c d p q r s) (m3 a b c d p q r s) with ⟨L, M, N, O, E⟩
      exact lmul_t _ _ _ _ _ _ _ _ _ _ g _ _ _ _ _ _ w h0 f0 ex ey vx vy hs hv hl
  · rw [if_neg hs]
    exact lmul_x _ _ _ _ _ _ _ _ _ _ g _ w h0 f0 ex ey hs

theorem addS_eq {a b c d : Int} {e : Nat} {p q r s : Int} {f : Nat} {A B C D P Q R S : Int} {z1 z2 : Bool} (h1 : raisS (f - e) a b c d false = (⟨A, B, C, D⟩, z1)) (h2 : raisS (e - f) p q r s z1 = (⟨P, Q, R, S⟩, z2)) :
    addS false ⟨a, b, c, d, e⟩ ⟨p, q, r, s, f⟩ = if vr (A + P) (B + Q) (C + R) (D + S) then (ofDy (low (e + (f - e)) (A + P) (B + Q) (C + R) (D + S)), z2) else (ofDy (low (e + (f - e)) 0 0 0 0), true) := by
  unfold addS addR
  simp only [Int.toNat_natCast]
  rw [h1]
  dsimp only
  rw [h2]
theorem iadd_key {a b c d : Int} {e : Nat} {p q r s : Int} {f : Nat} (hx : vd a b c d e = true) (hy : vd p q r s f = true) (w : World) :
    ((addS false ⟨a, b, c, d, e⟩ ⟨p, q, r, s, f⟩).2 = true ∧ Calls Try.prog 136 #[dy a b c d (e : Int), dy p q r s (f : Int)] w fun ee w' => ee = .returned (dt 0 0 0 0 0 false) ∧ Below w.heap.size w w') ∨
    ∃ L M N O E : Int, addS false ⟨a, b, c, d, e⟩ ⟨p, q, r, s, f⟩ = (⟨L, M, N, O, E⟩, false) ∧ Calls Try.prog 136 #[dy a b c d (e : Int), dy p q r s (f : Int)] w fun ee w' => ee = .returned (dt L M N O E true) ∧ Below w.heap.size w w' := by
  obtain ⟨vx, ex, _⟩ := vd_iff.1 hx
  obtain ⟨vy, ey, _⟩ := vd_iff.1 hy
  rcases hr : rais (f - e) a b c d with _ | ⟨A, B, C, D⟩
  · have hlt : e < f := by
      apply Nat.lt_of_not_le; intro hh
      rw [Nat.sub_eq_zero_of_le hh] at hr; cases hr
    obtain ⟨A, B, C, D, h1, _⟩ := raisS_none _ vx hr
    have h2 : raisS (e - f) p q r s true = (⟨p, q, r, s⟩, true) := by rw [Nat.sub_eq_zero_of_le (Nat.le_of_lt hlt)]; rfl
    exact Or.inl ⟨by rw [addS_eq h1 h2]; split <;> rfl, addD_i_lt_n _ _ _ _ _ _ _ _ _ _ 0 0 0 0 0 0 0 0 0 0 0 0 0 w hlt hx hy hr⟩
  · obtain ⟨h1, v1⟩ := raisS_some _ vx hr
    rcases hs : rais (e - f) p q r s with _ | ⟨P, Q, R, S⟩
    · have hlt : f < e := by
        apply Nat.lt_of_not_le; intro hh
        rw [Nat.sub_eq_zero_of_le hh] at hs; cases hs
      obtain ⟨P, Q, R, S, h2, _⟩ := raisS_none _ vy hs
      exact Or.inl ⟨by rw [addS_eq h1 h2]; split <;> rfl, addD_i_gt_n _ _ _ _ _ _ _ _ _ _ 0 0 0 0 0 0 0 0 0 0 0 0 0 w hlt hx hy hs⟩
    · obtain ⟨h2, v2⟩ := raisS_some _ vy hs
      rcases Nat.lt_trichotomy e f with hc | hc | hc
      · have hP : (⟨p, q, r, s⟩ : R4) = ⟨P, Q, R, S⟩ := by rw [Nat.sub_eq_zero_of_le (Nat.le_of_lt hc)] at hs; simpa [rais] using hs
        simp only [R4.mk.injEq] at hP
        obtain ⟨rfl, rfl, rfl, rfl⟩ := hP
        have hef : e + (f - e) = f := by omega
        cases hv : vr (A + p) (B + q) (C + r) (D + s)
        · exact Or.inl ⟨by rw [addS_eq h1 h2, if_neg (by rw [hv]; decide)], addD_i_lt_o _ _ _ _ _ _ _ _ _ _ A B C D 0 0 0 0 0 0 0 0 0 w hc hx hy hr hv⟩
        · rcases hl : low (e + (f - e)) (A + p) (B + q) (C + r) (D + s) with ⟨L, M, N, O, E⟩
          exact Or.inr ⟨L, M, N, O, E, by rw [addS_eq h1 h2, if_pos hv, hl]; rfl, addD_i_lt_t _ _ _ _ _ _ _ _ _ _ A B C D 0 0 0 0 _ _ _ _ _ w hc hx hy hr hv (by rw [← hl, hef])⟩
      · subst hc
        rw [Nat.sub_self] at hr hs
        have hA : (⟨a, b, c, d⟩ : R4) = ⟨A, B, C, D⟩ := by simpa [rais] using hr
        have hP : (⟨p, q, r, s⟩ : R4) = ⟨P, Q, R, S⟩ := by simpa [rais] using hs
        simp only [R4.mk.injEq] at hA hP
        obtain ⟨rfl, rfl, rfl, rfl⟩ := hA
        obtain ⟨rfl, rfl, rfl, rfl⟩ := hP
        have hef : e + (e - e) = e := by omega
        cases hv : vr (a + p) (b + q) (c + r) (d + s)
        · exact Or.inl ⟨by rw [addS_eq h1 h2, if_neg (by rw [hv]; decide)], addD_i_eq_o _ _ _ _ _ _ _ _ _ _ 0 0 0 0 0 0 0 0 0 0 0 0 0 w rfl hx hy hv⟩
        · rcases hl : low (e + (e - e)) (a + p) (b + q) (c + r) (d + s) with ⟨L, M, N, O, E⟩
          exact Or.inr ⟨L, M, N, O, E, by rw [addS_eq h1 h2, if_pos hv, hl]; rfl, addD_i_eq_t _ _ _ _ _ _ _ _ _ _ 0 0 0 0 0 0 0 0 _ _ _ _ _ w rfl hx hy hv (by rw [← hl, hef])⟩
      · have hA : (⟨a, b, c, d⟩ : R4) = ⟨A, B, C, D⟩ := by rw [Nat.sub_eq_zero_of_le (Nat.le_of_lt hc)] at hr; simpa [rais] using hr
        simp only [R4.mk.injEq] at hA
        obtain ⟨rfl, rfl, rfl, rfl⟩ := hA
        have hef : e + (f - e) = e := by omega
        cases hv : vr (a + P) (b + Q) (c + R) (d + S)
        · exact Or.inl ⟨by rw [addS_eq h1 h2, if_neg (by rw [hv]; decide)], addD_i_gt_o _ _ _ _ _ _ _ _ _ _ 0 0 0 0 P Q R S 0 0 0 0 0 w hc hx hy hs (by rw [Int.add_comm P a, Int.add_comm Q b, Int.add_comm R c, Int.add_comm S d]; exact hv)⟩
        · rcases hl : low (e + (f - e)) (a + P) (b + Q) (c + R) (d + S) with ⟨L, M, N, O, E⟩
          exact Or.inr ⟨L, M, N, O, E, by rw [addS_eq h1 h2, if_pos hv, hl]; rfl, addD_i_gt_t _ _ _ _ _ _ _ _ _ _ 0 0 0 0 P Q R S _ _ _ _ _ w hc hx hy hs (by rw [Int.add_comm P a, Int.add_comm Q b, Int.add_comm R c, Int.add_comm S d]; exact hv) (by rw [Int.add_comm P a, Int.add_comm Q b, Int.add_comm R c, Int.add_comm S d, ← hl, hef])⟩
/-- the program's sum of two valid numbers: it fails, or is the model's -/
theorem iadd_f {x y : D5} (hx : x.ok = true) (hy : y.ok = true) (h : (addS false x y).2 = true) (w : World) :
    Calls Try.prog 136 #[x.v, y.v] w fun ee w' => ee = .returned (dt 0 0 0 0 0 false) ∧ Below w.heap.size w w' := by
  obtain ⟨a, b, c, d, e'⟩ := x
  obtain ⟨p, q, r, s, f'⟩ := y
  obtain ⟨e, h1, h2⟩ := ok_nat hx
  obtain ⟨f, k1, k2⟩ := ok_nat hy
  dsimp only at h1 h2 k1 k2
  subst h1 k1
  rcases iadd_key h2 k2 w with ⟨_, hc⟩ | ⟨L, M, N, O, E, hk, _⟩
  · exact hc
  · rw [hk] at h; cases h
theorem iadd_t {x y : D5} (hx : x.ok = true) (hy : y.ok = true) (h : (addS false x y).2 = false) (w : World) :
    Calls Try.prog 136 #[x.v, y.v] w fun ee w' => ee = .returned (.tuple #[(addS false x y).1.v, .bool true]) ∧ Below w.heap.size w w' := by
  obtain ⟨a, b, c, d, e'⟩ := x
  obtain ⟨p, q, r, s, f'⟩ := y
  obtain ⟨e, h1, h2⟩ := ok_nat hx
  obtain ⟨f, k1, k2⟩ := ok_nat hy
  dsimp only at h1 h2 k1 k2
  subst h1 k1
  rcases iadd_key h2 k2 w with ⟨hk, _⟩ | ⟨L, M, N, O, E, hk, hc⟩
  · rw [hk] at h; cases h
  · rw [hk]; exact hc
theorem imul_f {x y : D5} (hx : x.ok = true) (hy : y.ok = true) (h : (mulS false x y).2 = true) (w : World) :
    Calls Try.prog 134 #[x.v, y.v] w fun ee w' => ee = .returned (dt 0 0 0 0 0 false) ∧ Below w.heap.size w w' := by
  obtain ⟨a, b, c, d, e'⟩ := x
  obtain ⟨p, q, r, s, f'⟩ := y
  obtain ⟨e, h1, h2⟩ := ok_nat hx
  obtain ⟨f, k1, k2⟩ := ok_nat hy
  dsimp only at h1 h2 k1 k2
  subst h1 k1
  unfold mulS at h
  simp only [Int.toNat_natCast] at h
  cases hv : vr (m0 a b c d p q r s) (m1 a b c d p q r s) (m2 a b c d p q r s) (m3 a b c d p q r s)
  · exact mulD_i_o _ _ _ _ _ _ _ _ _ _ w h2 k2 hv
  · by_cases hs : e + f ≤ 60
    · rw [if_pos hs, if_pos hv] at h; cases h
    · exact mulD_i_x _ _ _ _ _ _ _ _ _ _ w h2 k2 hs hv
theorem imul_t {x y : D5} (hx : x.ok = true) (hy : y.ok = true) (h : (mulS false x y).2 = false) (w : World) :
    Calls Try.prog 134 #[x.v, y.v] w fun ee w' => ee = .returned (.tuple #[(mulS false x y).1.v, .bool true]) ∧ Below w.heap.size w w' := by
  obtain ⟨a, b, c, d, e'⟩ := x
  obtain ⟨p, q, r, s, f'⟩ := y
  obtain ⟨e, h1, h2⟩ := ok_nat hx
  obtain ⟨f, k1, k2⟩ := ok_nat hy
  dsimp only at h1 h2 k1 k2
  subst h1 k1
  unfold mulS at h ⊢
  simp only [Int.toNat_natCast] at h ⊢
  by_cases hs : e + f ≤ 60
  · cases hv : vr (m0 a b c d p q r s) (m1 a b c d p q r s) (m2 a b c d p q r s) (m3 a b c d p q r s)
    · rw [if_pos hs, if_neg (by rw [hv]; decide)] at h; cases h
    · rw [if_pos hs, if_pos rfl]
      rcases hl : low (e + f) (m0 a b c d p q r s) (m1 a b c d p q r s) (m2 a b c d p q r s) (m3 a b c d p q r s) with ⟨L, M, N, O, E⟩
      exact mulD_i_t _ _ _ _ _ _ _ _ _ _ _ _ _ _ _ w h2 k2 hs hv hl
  · rw [if_neg hs] at h; cases h
attribute [irreducible] addS mulS
end Go.Proofs.Ytofclfgaekjonaa
namespace Go.Proofs.Ytofclfgaekjonaa
open Go.RowKit RM
set_option linter.unusedVariables false
set_option linter.unusedSimpArgs false
/-- the opposite number -/
def neg5 (x : D5) : D5 := ⟨-x.a, -x.b, -x.c, -x.d, x.e⟩
theorem vr_n (a b c d : Int) : vr (-a) (-b) (-c) (-d) = vr a b c d := by
  rw [Bool.eq_iff_iff, vr_iff, vr_iff]; omega
theorem ev2_n (a b c d : Int) : ev2 (-a) (-b) (-c) (-d) = ev2 a b c d := by
  have h (x y : Int) : ((-x + -y).tmod 2 == 0) = ((x + y).tmod 2 == 0) := by
    rw [show -x + -y = -(x + y) by omega, Int.neg_tmod, Bool.eq_iff_iff, beq_iff_eq, beq_iff_eq]; omega
  unfold ev2; rw [h, h]
theorem low_n (e : Nat) : ∀ a b c d : Int, low e (-a) (-b) (-c) (-d) = ⟨-(low e a b c d).a, -(low e a b c d).b, -(low e a b c d).c, -(low e a b c d).d, (low e a b c d).e⟩ := by
  induction e with
  | zero => intro a b c d; rfl
  | succ e ih =>
    intro a b c d
    rw [low, low, ev2_n]
    have e0 : (-b - -d).tdiv 2 = -((b - d).tdiv 2) := by rw [show -b - -d = -(b - d) by omega, Int.neg_tdiv]
    have e1 : (-a + -c).tdiv 2 = -((a + c).tdiv 2) := by rw [show -a + -c = -(a + c) by omega, Int.neg_tdiv]
    have e2 : (-b + -d).tdiv 2 = -((b + d).tdiv 2) := by rw [show -b + -d = -(b + d) by omega, Int.neg_tdiv]
    have e3 : (-c - -a).tdiv 2 = -((c - a).tdiv 2) := by rw [show -c - -a = -(c - a) by omega, Int.neg_tdiv]
    rw [e0, e1, e2, e3]
    split
    · exact ih _ _ _ _
    · rfl
theorem raisS_n (n : Nat) : ∀ (a b c d : Int) (z : Bool), raisS n (-a) (-b) (-c) (-d) z = (⟨-(raisS n a b c d z).1.a, -(raisS n a b c d z).1.b, -(raisS n a b c d z).1.c, -(raisS n a b c d z).1.d⟩, (raisS n a b c d z).2) := by
  induction n with
  | zero => intro a b c d z; rfl
  | succ n ih =>
    intro a b c d z
    rw [raisS, raisS]
    have e0 : -b - -d = -(b - d) := by omega
    have e1 : -a + -c = -(a + c) := by omega
    have e2 : -b + -d = -(b + d) := by omega
    have e3 : -c - -a = -(c - a) := by omega
    rw [e0, e1, e2, e3, vr_n]
    split
    · exact ih _ _ _ _ _
    · have := ih 0 0 0 0 true
      simpa using this
theorem neg5_low0 (n : Nat) : ofDy (low n 0 0 0 0) = neg5 (ofDy (low n 0 0 0 0)) := by
  rw [low_0]; rfl
theorem addS_n (z : Bool) (x y : D5) : addS z (neg5 x) (neg5 y) = (neg5 (addS z x y).1, (addS z x y).2) := by
  have hr : addR z (neg5 x) (neg5 y) = (⟨-(addR z x y).1.a, -(addR z x y).1.b, -(addR z x y).1.c, -(addR z x y).1.d⟩, ⟨-(addR z x y).2.1.a, -(addR z x y).2.1.b, -(addR z x y).2.1.c, -(addR z x y).2.1.d⟩, (addR z x y).2.2) := by
    unfold addR neg5
    dsimp only
    rw [raisS_n]
    dsimp only
    rw [raisS_n]
  unfold addS
  rw [hr]
  dsimp only
  have e (p q : Int) : -p + -q = -(p + q) := by omega
  rw [e, e, e, e, vr_n]
  show (if _ then (ofDy (low (x.e.toNat + (y.e.toNat - x.e.toNat)) _ _ _ _), _) else (ofDy (low (x.e.toNat + (y.e.toNat - x.e.toNat)) 0 0 0 0), true)) = _
  split
  · rw [low_n]; rfl
  · show (_, true) = (neg5 _, true)
    rw [← neg5_low0]
theorem mulS_n (z : Bool) (x y : D5) : mulS z x (neg5 y) = (neg5 (mulS z x y).1, (mulS z x y).2) := by
  unfold mulS
  show (if x.e.toNat + y.e.toNat ≤ 60 then (if vr (m0 x.a x.b x.c x.d (-y.a) (-y.b) (-y.c) (-y.d)) (m1 x.a x.b x.c x.d (-y.a) (-y.b) (-y.c) (-y.d)) (m2 x.a x.b x.c x.d (-y.a) (-y.b) (-y.c) (-y.d)) (m3 x.a x.b x.c x.d (-y.a) (-y.b) (-y.c) (-y.d)) then (ofDy (low (x.e.toNat + y.e.toNat) (m0 x.a x.b x.c x.d (-y.a) (-y.b) (-y.c) (-y.d)) (m1 x.a x.b x.c x.d (-y.a) (-y.b) (-y.c) (-y.d)) (m2 x.a x.b x.c x.d (-y.a) (-y.b) (-y.c) (-y.d)) (m3 x.a x.b x.c x.d (-y.a) (-y.b) (-y.c) (-y.d))), z) else (ofDy (low (x.e.toNat + y.e.toNat) 0 0 0 0), true)) else (z5, true)) = _
  have e0 : m0 x.a x.b x.c x.d (-y.a) (-y.b) (-y.c) (-y.d) = -(m0 x.a x.b x.c x.d y.a y.b y.c y.d) := by simp only [m0, Int.mul_neg]; omega
  have e1 : m1 x.a x.b x.c x.d (-y.a) (-y.b) (-y.c) (-y.d) = -(m1 x.a x.b x.c x.d y.a y.b y.c y.d) := by simp only [m1, Int.mul_neg]; omega
  have e2 : m2 x.a x.b x.c x.d (-y.a) (-y.b) (-y.c) (-y.d) = -(m2 x.a x.b x.c x.d y.a y.b y.c y.d) := by simp only [m2, Int.mul_neg]; omega
  have e3 : m3 x.a x.b x.c x.d (-y.a) (-y.b) (-y.c) (-y.d) = -(m3 x.a x.b x.c x.d y.a y.b y.c y.d) := by simp only [m3, Int.mul_neg]; omega
  rw [e0, e1, e2, e3, vr_n]
  split
  · split
    · rw [low_n]; rfl
    · show (_, true) = (neg5 _, true)
      rw [← neg5_low0]
  · rfl
theorem addS_comm (z : Bool) (x y : D5) : addS z x y = addS z y x := by
  have key (x y : D5) (h : y.e.toNat ≤ x.e.toNat) : addS z x y = addS z y x := by
    have h0 : y.e.toNat - x.e.toNat = 0 := by omega
    have h1 : x.e.toNat + 0 = y.e.toNat + (x.e.toNat - y.e.toNat) := by omega
    unfold addS addR
    dsimp only
    rw [h0]
    show (if vr (x.a + _) (x.b + _) (x.c + _) (x.d + _) then (ofDy (low (x.e.toNat + 0) (x.a + _) (x.b + _) (x.c + _) (x.d + _)), _) else (ofDy (low (x.e.toNat + 0) 0 0 0 0), true)) = (if vr (_ + x.a) (_ + x.b) (_ + x.c) (_ + x.d) then (ofDy (low _ (_ + x.a) (_ + x.b) (_ + x.c) (_ + x.d)), _) else _)
    rw [h1, Int.add_comm x.a, Int.add_comm x.b, Int.add_comm x.c, Int.add_comm x.d]
    rfl
  rcases Nat.le_total y.e.toNat x.e.toNat with h | h
  · exact key x y h
  · exact (key y x h).symm
theorem neg5_neg (x : D5) : neg5 (neg5 x) = x := by
  obtain ⟨a, b, c, d, e⟩ := x
  simp [neg5]
/-- x - y and y - x -/
theorem sub_n (z : Bool) (x y : D5) : addS z x (neg5 y) = (neg5 (addS z y (neg5 x)).1, (addS z y (neg5 x)).2) := by
  rw [← addS_n, neg5_neg, addS_comm]
theorem raisS_or (n : Nat) : ∀ (a b c d : Int) (z : Bool), raisS n a b c d z = ((raisS n a b c d false).1, z || (raisS n a b c d false).2) := by
  induction n with
  | zero => intro a b c d z; simp [raisS]
  | succ n ih =>
    intro a b c d z
    rw [raisS, raisS]
    split
    · exact ih _ _ _ _ _
    · rw [ih]; simp
theorem addS_or (z : Bool) (x y : D5) : addS z x y = ((addS false x y).1, z || (addS false x y).2) := by
  have hr : addR z x y = ((addR false x y).1, (addR false x y).2.1, z || (addR false x y).2.2) := by
    unfold addR
    dsimp only
    rw [raisS_or _ _ _ _ _ z]
    dsimp only
    rw [raisS_or _ _ _ _ _ (z || _), raisS_or _ _ _ _ _ (raisS (y.e.toNat - x.e.toNat) x.a x.b x.c x.d false).2]
    simp [Bool.or_assoc]
  unfold addS
  rw [hr]
  dsimp only
  split <;> simp
theorem mulS_or (z : Bool) (x y : D5) : mulS z x y = ((mulS false x y).1, z || (mulS false x y).2) := by
  unfold mulS
  split
  · split <;> simp
  · simp
/-- a minor: two products and their difference, and whether one of them failed -/
def mnr (f : Nat → D5) (j k : Nat) : D5 × Bool :=
  ((addS false (mulS false (f (3 + j)) (f (6 + k))).1 (neg5 (mulS false (f (3 + k)) (f (6 + j))).1)).1, (mulS false (f (3 + j)) (f (6 + k))).2 || (mulS false (f (3 + k)) (f (6 + j))).2 || (addS false (mulS false (f (3 + j)) (f (6 + k))).1 (neg5 (mulS false (f (3 + k)) (f (6 + j))).1)).2)
/-- the model's determinant -/
def detP (f : Nat → D5) (j k l : Nat) : D5 × Bool := mulS false (f j) (mnr f k l).1
def detV1 (f : Nat → D5) : D5 × Bool := addS false (detP f 0 1 2).1 (neg5 (detP f 1 0 2).1)
def detV2 (f : Nat → D5) : D5 × Bool := addS false (detV1 f).1 (detP f 2 0 1).1
def detZ (f : Nat → D5) : Bool := (mnr f 1 2).2 || (detP f 0 1 2).2 || (mnr f 0 2).2 || (detP f 1 0 2).2 || (detV1 f).2 || (mnr f 0 1).2 || (detP f 2 0 1).2 || (detV2 f).2
/-- what the program gets of an operation: 0 where it failed -/
def kp (r : D5 × Bool) : D5 := if r.2 then z5 else r.1
theorem kp_f {r : D5 × Bool} (h : r.2 = false) : kp r = r.1 := by unfold kp; rw [h]; rfl
def mulK (x y : D5) : D5 × Bool := (kp (mulS false x y), (mulS false x y).2)
def addK (x y : D5) : D5 × Bool := (kp (addS false x y), (addS false x y).2)
def subK (x y : D5) : D5 × Bool := (kp (addS false x (neg5 y)), (addS false x (neg5 y)).2)
/-- one step of the program's determinant: column j, the next two; the sum so far -/
def stpK (f : Nat → D5) (j k l : Nat) (s : D5 × Bool) : D5 × Bool :=
  ((addK s.1 (mulK (f j) (subK (mulK (f (3 + k)) (f (6 + l))).1 (mulK (f (3 + l)) (f (6 + k))).1).1).1).1,
   s.2 || (mulK (f (3 + k)) (f (6 + l))).2 || (mulK (f (3 + l)) (f (6 + k))).2 || (subK (mulK (f (3 + k)) (f (6 + l))).1 (mulK (f (3 + l)) (f (6 + k))).1).2 || (mulK (f j) (subK (mulK (f (3 + k)) (f (6 + l))).1 (mulK (f (3 + l)) (f (6 + k))).1).1).2 || (addK s.1 (mulK (f j) (subK (mulK (f (3 + k)) (f (6 + l))).1 (mulK (f (3 + l)) (f (6 + k))).1).1).1).2)
/-- a step in the model's words -/
def stpM (f : Nat → D5) (j k l : Nat) (s : D5) : D5 × Bool := (((addS false s (detP f j k l).1).1), (mnr f k l).2 || (detP f j k l).2 || (addS false s (detP f j k l).1).2)
theorem st_m {f : Nat → D5} {j k l : Nat} {s : D5 × Bool} (hs : s.2 = false) : (stpK f j k l s).2 = (stpM f j k l s.1).2 ∧ ((stpM f j k l s.1).2 = false → (stpK f j k l s).1 = (stpM f j k l s.1).1) := by
  unfold stpK stpM detP mnr mulK subK addK
  dsimp only
  rw [hs]
  cases h1 : (mulS false (f (3 + k)) (f (6 + l))).2
  · rw [kp_f h1]
    cases h2 : (mulS false (f (3 + l)) (f (6 + k))).2
    · rw [kp_f h2]
      cases h3 : (addS false (mulS false (f (3 + k)) (f (6 + l))).1 (neg5 (mulS false (f (3 + l)) (f (6 + k))).1)).2
      · rw [kp_f h3]
        cases h4 : (mulS false (f j) (addS false (mulS false (f (3 + k)) (f (6 + l))).1 (neg5 (mulS false (f (3 + l)) (f (6 + k))).1)).1).2
        · rw [kp_f h4]
          simp only [Bool.false_or, true_and]
          exact fun h => kp_f h
        · simp
      · simp
    · simp
  · simp
theorem mnr_n (f : Nat → D5) (j k : Nat) : mnr f k j = (neg5 (mnr f j k).1, (mnr f j k).2) := by
  unfold mnr
  rw [sub_n]
  dsimp only
  rw [Bool.or_comm (mulS false (f (3 + k)) (f (6 + j))).2]
theorem detP_n (f : Nat → D5) (i j k : Nat) : detP f i k j = (neg5 (detP f i j k).1, (detP f i j k).2) := by
  unfold detP
  rw [mnr_n]
  dsimp only
  rw [mulS_n]
/-- both determinants fail alike, and are one otherwise (h0: the first product is valid, so adding it to 0 changes nothing) -/
theorem det_m (f : Nat → D5) (h0 : addS false z5 (detP f 0 1 2).1 = ((detP f 0 1 2).1, false)) :
    (stpK f 2 0 1 (stpK f 1 2 0 (stpK f 0 1 2 (z5, false)))).2 = detZ f ∧ (detZ f = false → (stpK f 2 0 1 (stpK f 1 2 0 (stpK f 0 1 2 (z5, false)))).1 = (detV2 f).1) := by
  have mono : ∀ (j k l : Nat) (s : D5 × Bool), s.2 = true → (stpK f j k l s).2 = true := by
    intro j k l s hs; unfold stpK; dsimp only; rw [hs]; simp
  obtain ⟨a1, a2⟩ := st_m (f := f) (j := 0) (k := 1) (l := 2) (s := (z5, false)) rfl
  have e1 : stpM f 0 1 2 z5 = ((detP f 0 1 2).1, (mnr f 1 2).2 || (detP f 0 1 2).2) := by
    unfold stpM; rw [h0]; simp
  dsimp only at a1 a2
  rw [e1] at a1 a2
  unfold detZ
  cases h1 : ((mnr f 1 2).2 || (detP f 0 1 2).2)
  · rw [h1] at a1 a2
    have a3 := a2 rfl
    dsimp only at a3
    obtain ⟨b1, b2⟩ := st_m (f := f) (j := 1) (k := 2) (l := 0) (s := stpK f 0 1 2 (z5, false)) a1
    rw [a3] at b1 b2
    have e2 : stpM f 1 2 0 (detP f 0 1 2).1 = ((detV1 f).1, (mnr f 0 2).2 || (detP f 1 0 2).2 || (detV1 f).2) := by
      unfold stpM detV1
      rw [detP_n f 1 0 2, mnr_n f 0 2]
    rw [e2] at b1 b2
    dsimp only at b1 b2
    cases h2 : ((mnr f 0 2).2 || (detP f 1 0 2).2 || (detV1 f).2)
    · rw [h2] at b1 b2
      have b3 := b2 rfl
      obtain ⟨c1, c2⟩ := st_m (f := f) (j := 2) (k := 0) (l := 1) (s := stpK f 1 2 0 (stpK f 0 1 2 (z5, false))) b1
      rw [b3] at c1 c2
      rw [c1]
      simp only [Bool.or_eq_false_iff] at h2
      obtain ⟨⟨g1, g2⟩, g3⟩ := h2
      rw [g1, g2, g3]
      unfold stpM at c2 ⊢
      simp only [Bool.false_or]
      exact ⟨rfl, c2⟩
    · rw [h2] at b1
      rw [mono _ _ _ _ b1]
      simp only [Bool.false_or]
      have : ((mnr f 0 2).2 || (detP f 1 0 2).2 || (detV1 f).2 || (mnr f 0 1).2 || (detP f 2 0 1).2 || (detV2 f).2) = true := by rw [h2]; simp
      rw [this]
      exact ⟨rfl, fun h => by cases h⟩
  · rw [h1] at a1
    rw [mono _ _ _ _ (mono _ _ _ _ a1)]
    simp
end Go.Proofs.Ytofclfgaekjonaa
namespace Go.Proofs.Ytofclfgaekjonaa
open Go.RowKit RM
set_option linter.unusedVariables false
set_option linter.unusedSimpArgs false
attribute [local irreducible] World.setCell

/-- all numbers are valid -/
def allB (xs : List D5) : Bool := xs.all D5.ok
/-- a dimension: a power of two from 1 to 32 -/
def dimB (n : Int) : Bool := n == 1 || n == 2 || n == 4 || n == 8 || n == 16 || n == 32
theorem dimB_cases {n : Int} (h : dimB n = true) : n = 1 ∨ n = 2 ∨ n = 4 ∨ n = 8 ∨ n = 16 ∨ n = 32 := by
  unfold dimB at h; simpa [or_assoc] using h
theorem dimB_f {n : Int} (h : dimB n = false) : n ≠ 1 ∧ n ≠ 2 ∧ n ≠ 4 ∧ n ≠ 8 ∧ n ≠ 16 ∧ n ≠ 32 := by
  unfold dimB at h; simpa [and_assoc] using h
/-- a matrix that is valid -/
def okM (r c : Int) (n : Nat) (xs : List D5) : Bool := dimB r && dimB c && decide ((n : Int) = r * c) && allB xs
theorem okM_iff {r c : Int} {n : Nat} {xs : List D5} : okM r c n xs = true ↔ dimB r = true ∧ dimB c = true ∧ (n : Int) = r * c ∧ allB xs = true := by
  unfold okM; simp [and_assoc]
theorem prod_bd {r c : Int} (hr : dimB r = true) (hc : dimB c = true) : 1 ≤ r ∧ r ≤ 32 ∧ 1 ≤ c ∧ c ≤ 32 ∧ 1 ≤ r * c ∧ r * c ≤ 1024 := by
  rcases dimB_cases hr with rfl | rfl | rfl | rfl | rfl | rfl <;> rcases dimB_cases hc with rfl | rfl | rfl | rfl | rfl | rfl <;> decide
theorem all_get {xs : List D5} (h : allB xs = true) {k : Nat} {x : D5} (hx : xs[k]? = some x) : x.ok = true := List.all_eq_true.1 h x (List.mem_of_getElem? hx)
theorem all_not {xs : List D5} {k : Nat} {x : D5} (hx : xs[k]? = some x) (h : x.ok = false) : allB xs = false := by
  cases hq : allB xs
  · rfl
  · rw [all_get hq hx] at h; cases h
theorem take_all {xs : List D5} {j : Nat} {x : D5} (hx : xs[j]? = some x) (h : allB (xs.take j) = true) (hk : x.ok = true) : allB (xs.take (j + 1)) = true := by
  have hj := (List.getElem?_eq_some_iff.1 hx).1
  have hv := (List.getElem?_eq_some_iff.1 hx).2
  unfold allB at h ⊢
  rw [List.take_succ_eq_append_getElem hj, hv, List.all_append, h]
  simp [hk]
theorem gd_t {x : D5} (h : x.ok = true) (w : World) : Calls Try.prog 107 #[x.v] w fun ee w' => ee = .returned (.bool true) ∧ Below w.heap.size w w' := by
  obtain ⟨a, b, c, d, e'⟩ := x
  obtain ⟨e, h1, h2⟩ := ok_nat h
  dsimp only at h1 h2
  subst h1
  exact g2_t w h2
theorem gd_f {x : D5} (h : x.ok = false) (w : World) : Calls Try.prog 107 #[x.v] w fun ee w' => ee = .returned (.bool false) ∧ Below w.heap.size w w' := by
  obtain ⟨a, b, c, d, e⟩ := x
  exact g2_no w (by unfold D5.ok at h; exact h)
theorem id_t {x : D5} (h : x.ok = true) (w : World) : Calls Try.prog 71 #[x.v] w fun ee w' => ee = .returned (.bool true) ∧ Below w.heap.size w w' := by
  obtain ⟨a, b, c, d, e'⟩ := x
  obtain ⟨e, h1, h2⟩ := ok_nat h
  dsimp only at h1 h2
  subst h1
  exact ivd_v w h2
theorem id_f {x : D5} (h : x.ok = false) (w : World) : Calls Try.prog 71 #[x.v] w fun ee w' => ee = .returned (.bool false) ∧ Below w.heap.size w w' := by
  obtain ⟨a, b, c, d, e⟩ := x
  exact ivd_no w (by unfold D5.ok at h; exact h)

set_option maxRecDepth 100000 in
set_option maxHeartbeats 4000000 in
theorem dm_s_t {n : Int} (h : dimB n = true) (w : World) :
    Calls Try.prog 106 #[.int .i64 n] w fun ee w' => ee = .returned (.bool true) ∧ Below w.heap.size w w' := by
  rcases dimB_cases h with rfl | rfl | rfl | rfl | rfl | rfl
  all_goals
    go_enter Try.func106, Try.ntmps106
    go_wp2_with (go_in)
    go_rounds 7
    go_ret
    refine ⟨rfl, ?_⟩
    (repeat' (first | (with_reducible exact Below.refl _ _) | (with_reducible assumption) | (with_reducible refine Below.alloc ?_ ?_ _) | (with_reducible refine Below.drew ?_) | (with_reducible refine below_drewN ?_ _) | (with_reducible refine Below.setCell ?_ ?_ _) | (with_reducible refine chain ?_ (by assumption) ?_) | omega | (simp; done) | (simp; omega)))

set_option maxRecDepth 100000 in
set_option maxHeartbeats 4000000 in
theorem dm_s_f {n : Int} (h : dimB n = false) (w : World) :
    Calls Try.prog 106 #[.int .i64 n] w fun ee w' => ee = .returned (.bool false) ∧ Below w.heap.size w w' := by
  obtain ⟨h1, h2, h3, h4, h5, h6⟩ := dimB_f h
  have e1 : ((1 : Int) == n) = false := by simp; omega
  have e2 : ((2 : Int) == n) = false := by simp; omega
  have e3 : ((4 : Int) == n) = false := by simp; omega
  have e4 : ((8 : Int) == n) = false := by simp; omega
  have e5 : ((16 : Int) == n) = false := by simp; omega
  have e6 : ((32 : Int) == n) = false := by simp; omega
  clear h h1 h2 h3 h4 h5 h6
  go_enter Try.func106, Try.ntmps106
  go_wp2_with (go_in)
  go_rounds 7
  go_ret
  refine ⟨rfl, ?_⟩
  (repeat' (first | (with_reducible exact Below.refl _ _) | (with_reducible assumption) | (with_reducible refine Below.alloc ?_ ?_ _) | (with_reducible refine Below.drew ?_) | (with_reducible refine below_drewN ?_ _) | (with_reducible refine Below.setCell ?_ ?_ _) | (with_reducible refine chain ?_ (by assumption) ?_) | omega | (simp; done) | (simp; omega)))

set_option maxRecDepth 100000 in
set_option maxHeartbeats 8000000 in
theorem dm_i (n : Int) (w : World) :
    Calls Try.prog 110 #[.int .i64 n] w fun ee w' => ee = .returned (.bool (dimB n)) ∧ Below w.heap.size w w' := by
  by_cases h0 : 1 ≤ n
  · by_cases h1 : n ≤ 32
    · have : n = 1 ∨ n = 2 ∨ n = 3 ∨ n = 4 ∨ n = 5 ∨ n = 6 ∨ n = 7 ∨ n = 8 ∨ n = 9 ∨ n = 10 ∨ n = 11 ∨ n = 12 ∨ n = 13 ∨ n = 14 ∨ n = 15 ∨ n = 16 ∨ n = 17 ∨ n = 18 ∨ n = 19 ∨ n = 20 ∨ n = 21 ∨ n = 22 ∨ n = 23 ∨ n = 24 ∨ n = 25 ∨ n = 26 ∨ n = 27 ∨ n = 28 ∨ n = 29 ∨ n = 30 ∨ n = 31 ∨ n = 32 := by omega
      rcases this with rfl | rfl | rfl | rfl | rfl | rfl | rfl | rfl | rfl | rfl | rfl | rfl | rfl | rfl | rfl | rfl | rfl | rfl | rfl | rfl | rfl | rfl | rfl | rfl | rfl | rfl | rfl | rfl | rfl | rfl | rfl | rfl
      all_goals
        clear h0 h1
        go_enter Try.func110, Try.ntmps110
        go_wp2_with (fail)
        go_ret
        exact ⟨rfl, by (repeat' (first | (with_reducible exact Below.refl _ _) | (with_reducible assumption) | (with_reducible refine Below.alloc ?_ ?_ _) | (with_reducible refine Below.drew ?_) | (with_reducible refine below_drewN ?_ _) | (with_reducible refine Below.setCell ?_ ?_ _) | (with_reducible refine chain ?_ (by assumption) ?_) | omega | (simp; done) | (simp; omega)))⟩
    · have hd : dimB n = false := by unfold dimB; simp; omega
      rw [hd]
      have h2 : decide (n ≤ 32) = false := by simp; omega
      go_enter Try.func110, Try.ntmps110
      go_wp2_with (fail)
      go_ret
      exact ⟨rfl, by (repeat' (first | (with_reducible exact Below.refl _ _) | (with_reducible assumption) | (with_reducible refine Below.alloc ?_ ?_ _) | (with_reducible refine Below.drew ?_) | (with_reducible refine below_drewN ?_ _) | (with_reducible refine Below.setCell ?_ ?_ _) | (with_reducible refine chain ?_ (by assumption) ?_) | omega | (simp; done) | (simp; omega)))⟩
  · have hd : dimB n = false := by unfold dimB; simp; omega
    rw [hd]
    have h2 : decide (1 ≤ n) = false := by simp; omega
    go_enter Try.func110, Try.ntmps110
    go_wp2_with (fail)
    go_ret
    exact ⟨rfl, by (repeat' (first | (with_reducible exact Below.refl _ _) | (with_reducible assumption) | (with_reducible refine Below.alloc ?_ ?_ _) | (with_reducible refine Below.drew ?_) | (with_reducible refine below_drewN ?_ _) | (with_reducible refine Below.setCell ?_ ?_ _) | (with_reducible refine chain ?_ (by assumption) ?_) | omega | (simp; done) | (simp; omega)))⟩
theorem dm_i_t {n : Int} (h : dimB n = true) (w : World) : Calls Try.prog 110 #[.int .i64 n] w fun ee w' => ee = .returned (.bool true) ∧ Below w.heap.size w w' := by
  have := dm_i n w; rw [h] at this; exact this
theorem dm_i_f {n : Int} (h : dimB n = false) (w : World) : Calls Try.prog 110 #[.int .i64 n] w fun ee w' => ee = .returned (.bool false) ∧ Below w.heap.size w w' := by
  have := dm_i n w; rw [h] at this; exact this

end Go.Proofs.Ytofclfgaekjonaa
