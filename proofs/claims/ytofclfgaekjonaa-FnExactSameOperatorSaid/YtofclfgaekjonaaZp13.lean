/- MxA, MxE, Tu, GmA, Rgx -/
import Derived.Test.YtofclfgaekjonaaZp8
import Derived.Test.YtofclfgaekjonaaZp9
import Derived.Test.YtofclfgaekjonaaZp10
import Derived.Test.YtofclfgaekjonaaZp11
import Derived.Test.YtofclfgaekjonaaZp12
import Derived.Test.YtofclfgaekjonaaZp2
import Derived.Test.YtofclfgaekjonaaZp3
import Derived.Test.YtofclfgaekjonaaZp4
import Derived.Test.YtofclfgaekjonaaZp5
import Derived.Test.YtofclfgaekjonaaZp6
import Derived.Test.YtofclfgaekjonaaZp1
import Derived.OrdersHeld
import Derived.Deep.RegionHeld3
namespace Go.Proofs.Ytofclfgaekjonaa
open Go.RowKit RM
set_option linter.unusedVariables false
set_option linter.unusedSimpArgs false
attribute [local irreducible] World.setCell

theorem raisS_t (n : Nat) : ∀ {a b c d : Int}, (raisS n a b c d true).2 = true := by
  induction n with
  | zero => intro a b c d; rfl
  | succ n ih => intro a b c d; rw [raisS]; split <;> exact ih
theorem raisS_0 (n : Nat) : ∀ {z : Bool}, raisS n 0 0 0 0 z = (⟨0, 0, 0, 0⟩, z) := by
  induction n with
  | zero => intro z; rfl
  | succ n ih => intro z; rw [raisS, if_pos (by decide)]; exact ih
theorem low_0 (n : Nat) : low n 0 0 0 0 = ⟨0, 0, 0, 0, 0⟩ := by
  induction n with
  | zero => rfl
  | succ n ih => rw [low, if_pos (by decide)]; exact ih

/-- the model's sum: the number and whether a failure is remembered -/
def addR (z : Bool) (x y : D5) : R4 × R4 × Bool :=
  let p := raisS (y.e.toNat - x.e.toNat) x.a x.b x.c x.d z
  let q := raisS (x.e.toNat - y.e.toNat) y.a y.b y.c y.d p.2
  (p.1, q.1, q.2)
def addS (z : Bool) (x y : D5) : D5 × Bool :=
  let r := addR z x y
  if vr (r.1.a + r.2.1.a) (r.1.b + r.2.1.b) (r.1.c + r.2.1.c) (r.1.d + r.2.1.d) then (ofDy (low (x.e.toNat + (y.e.toNat - x.e.toNat)) (r.1.a + r.2.1.a) (r.1.b + r.2.1.b) (r.1.c + r.2.1.c) (r.1.d + r.2.1.d)), r.2.2)
  else (ofDy (low (x.e.toNat + (y.e.toNat - x.e.toNat)) 0 0 0 0), true)
/-- the model's product -/
def mulS (z : Bool) (x y : D5) : D5 × Bool :=
  if x.e.toNat + y.e.toNat ≤ 60 then
    if vr (m0 x.a x.b x.c x.d y.a y.b y.c y.d) (m1 x.a x.b x.c x.d y.a y.b y.c y.d) (m2 x.a x.b x.c x.d y.a y.b y.c y.d) (m3 x.a x.b x.c x.d y.a y.b y.c y.d) then (ofDy (low (x.e.toNat + y.e.toNat) (m0 x.a x.b x.c x.d y.a y.b y.c y.d) (m1 x.a x.b x.c x.d y.a y.b y.c y.d) (m2 x.a x.b x.c x.d y.a y.b y.c y.d) (m3 x.a x.b x.c x.d y.a y.b y.c y.d)), z)
    else (ofDy (low (x.e.toNat + y.e.toNat) 0 0 0 0), true)
  else (z5, true)
theorem addS_ok {z : Bool} {x y : D5} (hx : x.ok = true) (hy : y.ok = true) : (addS z x y).1.ok = true := by
  obtain ⟨e, h1, h2⟩ := ok_nat hx
  obtain ⟨f, k1, k2⟩ := ok_nat hy
  have he := (vd_iff.1 h2).2.1
  have hf := (vd_iff.1 k2).2.1
  have hs : x.e.toNat + (y.e.toNat - x.e.toNat) ≤ 60 := by rw [h1, k1]; simp; omega
  unfold addS
  dsimp only
  split
  · rename_i hv; exact ok_low hv hs
  · exact ok_low (by decide) hs
theorem addS_t {x y : D5} : (addS true x y).2 = true := by
  unfold addS addR
  dsimp only
  split
  · rw [raisS_t]
    exact raisS_t _
  · rfl
theorem mulS_ok {z : Bool} {x y : D5} (hx : x.ok = true) (hy : y.ok = true) : (mulS z x y).1.ok = true := by
  unfold mulS
  split
  · rename_i hs
    split
    · rename_i hv; exact ok_low hv hs
    · exact ok_low (by decide) hs
  · exact z5_ok
theorem mulS_z {z : Bool} {y : D5} (hy : y.ok = true) : mulS z z5 y = (z5, z) := by
  obtain ⟨f, k1, k2⟩ := ok_nat hy
  have hf := (vd_iff.1 k2).2.1
  unfold mulS z5
  have h0 : ∀ p q r s : Int, m0 0 0 0 0 p q r s = 0 := by intros; simp [m0]
  have h1 : ∀ p q r s : Int, m1 0 0 0 0 p q r s = 0 := by intros; simp [m1]
  have h2 : ∀ p q r s : Int, m2 0 0 0 0 p q r s = 0 := by intros; simp [m2]
  have h3 : ∀ p q r s : Int, m3 0 0 0 0 p q r s = 0 := by intros; simp [m3]
  simp only [h0, h1, h2, h3, low_0]
  rw [if_pos (by rw [k1]; simp; omega), if_pos (by decide)]
  rfl
theorem addS_z {z : Bool} {x : D5} (hx : x.ok = true) : addS z x z5 = (x, z) := by
  obtain ⟨a, b, c, d, e'⟩ := x
  obtain ⟨e, k1, k2⟩ := ok_nat hx
  dsimp only at k1 k2
  subst k1
  obtain ⟨h1, h2, h3⟩ := vd_iff.1 k2
  have e1 : (z5.e.toNat - ((e : Int)).toNat) = 0 := by simp [z5]
  have e2 : ((e : Int)).toNat = e := by simp
  unfold addS addR
  dsimp only
  rw [e1, e2]
  simp only [z5, raisS, Int.toNat_zero, Nat.sub_zero, raisS_0, Int.add_zero, Nat.add_zero, h1, if_true, low_fix h3]
  rfl

theorem cadd {x y : D5} {z : Bool} {g : Nat} {w : World} (hx : x.ok = true) (hy : y.ok = true) (h0 : w.cell? ⟨g, 0, none⟩ = some (.bool z)) (f0 : w.frozen? ⟨g, 0, none⟩ = false) :
    Calls Try.prog 125 #[.pointer (some ⟨g, 0, none⟩), x.v, y.v] w fun ee w' => ee = .returned (addS z x y).1.v ∧ Below w.heap.size (w.setCell ⟨g, 0, none⟩ (.bool (addS z x y).2)) w' := by
  obtain ⟨a, b, c, d, e'⟩ := x
  obtain ⟨p, q, r, s, f'⟩ := y
  obtain ⟨e, h1, h2⟩ := ok_nat hx
  obtain ⟨f, k1, k2⟩ := ok_nat hy
  dsimp only at h1 h2 k1 k2
  subst h1 k1
  obtain ⟨vx, ex, _⟩ := vd_iff.1 h2
  obtain ⟨vy, ey, _⟩ := vd_iff.1 k2
  unfold addS addR
  simp only [Int.toNat_natCast]
  rcases hr1 : raisS (f - e) a b c d z with ⟨⟨A, B, C, D⟩, z1⟩
  rcases hr2 : raisS (e - f) p q r s z1 with ⟨⟨P, Q, R, S⟩, z2⟩
  cases hv : vr (A + P) (B + Q) (C + R) (D + S)
  · simp only [Bool.false_eq_true, if_false]
    rcases hl : low (e + (f - e)) 0 0 0 0 with ⟨L, M, N, O, E⟩
    exact ladd_f _ _ _ _ _ _ _ _ _ _ g _ _ _ _ _ _ _ _ _ _ _ _ _ _ _ _ w h0 f0 ex ey vx vy hr1 hr2 hv hl
  · simp only [if_true]
    rcases hl : low (e + (f - e)) (A + P) (B + Q) (C + R) (D + S) with ⟨L, M, N, O, E⟩
    exact ladd_t _ _ _ _ _ _ _ _ _ _ g _ _ _ _ _ _ _ _ _ _ _ _ _ _ _ _ w h0 f0 ex ey vx vy hr1 hr2 hv hl

theorem cmul {x y : D5} {z : Bool} {g : Nat} {w : World} (hx : x.ok = true) (hy : y.ok = true) (h0 : w.cell? ⟨g, 0, none⟩ = some (.bool z)) (f0 : w.frozen? ⟨g, 0, none⟩ = false) :
    Calls Try.prog 123 #[.pointer (some ⟨g, 0, none⟩), x.v, y.v] w fun ee w' => ee = .returned (mulS z x y).1.v ∧ Below w.heap.size (w.setCell ⟨g, 0, none⟩ (.bool (mulS z x y).2)) w' := by
  obtain ⟨a, b, c, d, e'⟩ := x
  obtain ⟨p, q, r, s, f'⟩ := y
  obtain ⟨e, h1, h2⟩ := ok_nat hx
  obtain ⟨f, k1, k2⟩ := ok_nat hy
  dsimp only at h1 h2 k1 k2
  subst h1 k1
  obtain ⟨vx, ex, _⟩ := vd_iff.1 h2
  obtain ⟨vy, ey, _⟩ := vd_iff.1 k2
  unfold mulS
  simp only [Int.toNat_natCast]
  by_cases hs : e + f ≤ 60
  · rw [if_pos hs]
    cases hv : vr (m0 a b c d p q r s) (m1 a b c d p q r s) (m2 a b c d p q r s) (m3 a b c d p q r s)
    · simp only [Bool.false_eq_true, if_false]
      rcases hl : low (e + f) 0 0 0 0 with ⟨L, M, N, O, E⟩
      exact lmul_o _ _ _ _ _ _ _ _ _ _ g _ _ _ _ _ _ w h0 f0 ex ey vx vy hs hv hl
    · simp only [if_true]
      rcases hl : low (e + f) (m0 a b c d p q r s) (m1 a b c d p q r s) (m2 a b c d p q r s) (m3 a b c d p q r s) with ⟨L, M, N, O, E⟩
      exact lmul_t _ _ _ _ _ _ _ _ _ _ g _ _ _ _ _ _ w h0 f0 ex ey vx vy hs hv hl
  · rw [if_neg hs]
    exact lmul_x _ _ _ _ _ _ _ _ _ _ g _ w h0 f0 ex ey hs

theorem addS_eq {a b c d : Int} {e : Nat} {p q r s : Int} {f : Nat} {A B C D P Q R S : Int} {z1 z2 : Bool} (h1 : raisS (f - e) a b c d false = (⟨A, B, C, D⟩, z1)) (h2 : raisS (e - f) p q r s z1 = (⟨P, Q, R, S⟩, z2)) :
    addS false ⟨a, b, c, d, e⟩ ⟨p, q, r, s, f⟩ = if vr (A + P) (B + Q) (C + R) (D + S) then (ofDy (low (e + (f - e)) (A + P) (B + Q) (C + R) (D + S)), z2) else (ofDy (low (e + (f - e)) 0 0 0 0), true) := by
  unfold addS addR
  simp only [Int.toNat_natCast]
  rw [h1]
  dsimp only
  rw [h2]
theorem iadd_key {a b c d : Int} {e : Nat} {p q r s : Int} {f : Nat} (hx : vd a b c d e = true) (hy : vd p q r s f = true) (w : World) :
    ((addS false ⟨a, b, c, d, e⟩ ⟨p, q, r, s, f⟩).2 = true ∧ Calls Try.prog 136 #[dy a b c d (e : Int), dy p q r s (f : Int)] w fun ee w' => ee = .returned (dt 0 0 0 0 0 false) ∧ Below w.heap.size w w') ∨
    ∃ L M N O E : Int, addS false ⟨a, b, c, d, e⟩ ⟨p, q, r, s, f⟩ = (⟨L, M, N, O, E⟩, false) ∧ Calls Try.prog 136 #[dy a b c d (e : Int), dy p q r s (f : Int)] w fun ee w' => ee = .returned (dt L M N O E true) ∧ Below w.heap.size w w' := by
  obtain ⟨vx, ex, _⟩ := vd_iff.1 hx
  obtain ⟨vy, ey, _⟩ := vd_iff.1 hy
  rcases hr : rais (f - e) a b c d with _ | ⟨A, B, C, D⟩
  · have hlt : e < f := by
      apply Nat.lt_of_not_le; intro hh
      rw [Nat.sub_eq_zero_of_le hh] at hr; cases hr
    obtain ⟨A, B, C, D, h1, _⟩ := raisS_none _ vx hr
    have h2 : raisS (e - f) p q r s true = (⟨p, q, r, s⟩, true) := by rw [Nat.sub_eq_zero_of_le (Nat.le_of_lt hlt)]; rfl
    exact Or.inl ⟨by rw [addS_eq h1 h2]; split <;> rfl, addD_i_lt_n _ _ _ _ _ _ _ _ _ _ 0 0 0 0 0 0 0 0 0 0 0 0 0 w hlt hx hy hr⟩
  · obtain ⟨h1, v1⟩ := raisS_some _ vx hr
    rcases hs : rais (e - f) p q r s with _ | ⟨P, Q, R, S⟩
    · have hlt : f < e := by
        apply Nat.lt_of_not_le; intro hh
        rw [Nat.sub_eq_zero_of_le hh] at hs; cases hs
      obtain ⟨P, Q, R, S, h2, _⟩ := raisS_none _ vy hs
      exact Or.inl ⟨by rw [addS_eq h1 h2]; split <;> rfl, addD_i_gt_n _ _ _ _ _ _ _ _ _ _ 0 0 0 0 0 0 0 0 0 0 0 0 0 w hlt hx hy hs⟩
    · obtain ⟨h2, v2⟩ := raisS_some _ vy hs
      rcases Nat.lt_trichotomy e f with hc | hc | hc
      · have hP : (⟨p, q, r, s⟩ : R4) = ⟨P, Q, R, S⟩ := by rw [Nat.sub_eq_zero_of_le (Nat.le_of_lt hc)] at hs; simpa [rais] using hs
        simp only [R4.mk.injEq] at hP
        obtain ⟨rfl, rfl, rfl, rfl⟩ := hP
        have hef : e + (f - e) = f := by omega
        cases hv : vr (A + p) (B + q) (C + r) (D + s)
        · exact Or.inl ⟨by rw [addS_eq h1 h2, if_neg (by rw [hv]; decide)], addD_i_lt_o _ _ _ _ _ _ _ _ _ _ A B C D 0 0 0 0 0 0 0 0 0 w hc hx hy hr hv⟩
        · rcases hl : low (e + (f - e)) (A + p) (B + q) (C + r) (D + s) with ⟨L, M, N, O, E⟩
          exact Or.inr ⟨L, M, N, O, E, by rw [addS_eq h1 h2, if_pos hv, hl]; rfl, addD_i_lt_t _ _ _ _ _ _ _ _ _ _ A B C D 0 0 0 0 _ _ _ _ _ w hc hx hy hr hv (by rw [← hl, hef])⟩
      · subst hc
        rw [Nat.sub_self] at hr hs
        have hA : (⟨a, b, c, d⟩ : R4) = ⟨A, B, C, D⟩ := by simpa [rais] using hr
        have hP : (⟨p, q, r, s⟩ : R4) = ⟨P, Q, R, S⟩ := by simpa [rais] using hs
        simp only [R4.mk.injEq] at hA hP
        obtain ⟨rfl, rfl, rfl, rfl⟩ := hA
        obtain ⟨rfl, rfl, rfl, rfl⟩ := hP
        have hef : e + (e - e) = e := by omega
        cases hv : vr (a + p) (b + q) (c + r) (d + s)
        · exact Or.inl ⟨by rw [addS_eq h1 h2, if_neg (by rw [hv]; decide)], addD_i_eq_o _ _ _ _ _ _ _ _ _ _ 0 0 0 0 0 0 0 0 0 0 0 0 0 w rfl hx hy hv⟩
        · rcases hl : low (e + (e - e)) (a + p) (b + q) (c + r) (d + s) with ⟨L, M, N, O, E⟩
          exact Or.inr ⟨L, M, N, O, E, by rw [addS_eq h1 h2, if_pos hv, hl]; rfl, addD_i_eq_t _ _ _ _ _ _ _ _ _ _ 0 0 0 0 0 0 0 0 _ _ _ _ _ w rfl hx hy hv (by rw [← hl, hef])⟩
      · have hA : (⟨a, b, c, d⟩ : R4) = ⟨A, B, C, D⟩ := by rw [Nat.sub_eq_zero_of_le (Nat.le_of_lt hc)] at hr; simpa [rais] using hr
        simp only [R4.mk.injEq] at hA
        obtain ⟨rfl, rfl, rfl, rfl⟩ := hA
        have hef : e + (f - e) = e := by omega
        cases hv : vr (a + P) (b + Q) (c + R) (d + S)
        · exact Or.inl ⟨by rw [addS_eq h1 h2, if_neg (by rw [hv]; decide)], addD_i_gt_o _ _ _ _ _ _ _ _ _ _ 0 0 0 0 P Q R S 0 0 0 0 0 w hc hx hy hs (by rw [Int.add_comm P a, Int.add_comm Q b, Int.add_comm R c, Int.add_comm S d]; exact hv)⟩
        · rcases hl : low (e + (f - e)) (a + P) (b + Q) (c + R) (d + S) with ⟨L, M, N, O, E⟩
          exact Or.inr ⟨L, M, N, O, E, by rw [addS_eq h1 h2, if_pos hv, hl]; rfl, addD_i_gt_t _ _ _ _ _ _ _ _ _ _ 0 0 0 0 P Q R S _ _ _ _ _ w hc hx hy hs (by rw [Int.add_comm P a, Int.add_comm Q b, Int.add_comm R c, Int.add_comm S d]; exact hv) (by rw [Int.add_comm P a, Int.add_comm Q b, Int.add_comm R c, Int.add_comm S d, ← hl, hef])⟩
/-- the program's sum of two valid numbers: it fails, or is the model's -/
theorem iadd_f {x y : D5} (hx : x.ok = true) (hy : y.ok = true) (h : (addS false x y).2 = true) (w : World) :
    Calls Try.prog 136 #[x.v, y.v] w fun ee w' => ee = .returned (dt 0 0 0 0 0 false) ∧ Below w.heap.size w w' := by
  obtain ⟨a, b, c, d, e'⟩ := x
  obtain ⟨p, q, r, s, f'⟩ := y
  obtain ⟨e, h1, h2⟩ := ok_nat hx
  obtain ⟨f, k1, k2⟩ := ok_nat hy
  dsimp only at h1 h2 k1 k2
  subst h1 k1
  rcases iadd_key h2 k2 w with ⟨_, hc⟩ | ⟨L, M, N, O, E, hk, _⟩
  · exact hc
  · rw [hk] at h; cases h
theorem iadd_t {x y : D5} (hx : x.ok = true) (hy : y.ok = true) (h : (addS false x y).2 = false) (w : World) :
    Calls Try.prog 136 #[x.v, y.v] w fun ee w' => ee = .returned (.tuple #[(addS false x y).1.v, .bool true]) ∧ Below w.heap.size w w' := by
  obtain ⟨a, b, c, d, e'⟩ := x
  obtain ⟨p, q, r, s, f'⟩ := y
  obtain ⟨e, h1, h2⟩ := ok_nat hx
  obtain ⟨f, k1, k2⟩ := ok_nat hy
  dsimp only at h1 h2 k1 k2
  subst h1 k1
  rcases iadd_key h2 k2 w with ⟨hk, _⟩ | ⟨L, M, N, O, E, hk, hc⟩
  · rw [hk] at h; cases h
  · rw [hk]; exact hc
theorem imul_f {x y : D5} (hx : x.ok = true) (hy : y.ok = true) (h : (mulS false x y).2 = true) (w : World) :
    Calls Try.prog 134 #[x.v, y.v] w fun ee w' => ee = .returned (dt 0 0 0 0 0 false) ∧ Below w.heap.size w w' := by
  obtain ⟨a, b, c, d, e'⟩ := x
  obtain ⟨p, q, r, s, f'⟩ := y
  obtain ⟨e, h1, h2⟩ := ok_nat hx
  obtain ⟨f, k1, k2⟩ := ok_nat hy
  dsimp only at h1 h2 k1 k2
  subst h1 k1
  unfold mulS at h
  simp only [Int.toNat_natCast] at h
  cases hv : vr (m0 a b c d p q r s) (m1 a b c d p q r s) (m2 a b c d p q r s) (m3 a b c d p q r s)
  · exact mulD_i_o _ _ _ _ _ _ _ _ _ _ w h2 k2 hv
  · by_cases hs : e + f ≤ 60
    · rw [if_pos hs, if_pos hv] at h; cases h
    · exact mulD_i_x _ _ _ _ _ _ _ _ _ _ w h2 k2 hs hv
theorem imul_t {x y : D5} (hx : x.ok = true) (hy : y.ok = true) (h : (mulS false x y).2 = false) (w : World) :
    Calls Try.prog 134 #[x.v, y.v] w fun ee w' => ee = .returned (.tuple #[(mulS false x y).1.v, .bool true]) ∧ Below w.heap.size w w' := by
  obtain ⟨a, b, c, d, e'⟩ := x
  obtain ⟨p, q, r, s, f'⟩ := y
  obtain ⟨e, h1, h2⟩ := ok_nat hx
  obtain ⟨f, k1, k2⟩ := ok_nat hy
  dsimp only at h1 h2 k1 k2
  subst h1 k1
  unfold mulS at h ⊢
  simp only [Int.toNat_natCast] at h ⊢
  by_cases hs : e + f ≤ 60
  · cases hv : vr (m0 a b c d p q r s) (m1 a b c d p q r s) (m2 a b c d p q r s) (m3 a b c d p q r s)
    · rw [if_pos hs, if_neg (by rw [hv]; decide)] at h; cases h
    · rw [if_pos hs, if_pos rfl]
      rcases hl : low (e + f) (m0 a b c d p q r s) (m1 a b c d p q r s) (m2 a b c d p q r s) (m3 a b c d p q r s) with ⟨L, M, N, O, E⟩
      exact mulD_i_t _ _ _ _ _ _ _ _ _ _ _ _ _ _ _ w h2 k2 hs hv hl
  · rw [if_neg hs] at h; cases h
attribute [irreducible] addS mulS
end Go.Proofs.Ytofclfgaekjonaa
namespace Go.Proofs.Ytofclfgaekjonaa
open Go.RowKit RM
set_option linter.unusedVariables false
set_option linter.unusedSimpArgs false
attribute [local irreducible] World.setCell

theorem addS_zl {z : Bool} {y : D5} (hy : y.ok = true) : addS z z5 y = (y, z) := by
  obtain ⟨a, b, c, d, e'⟩ := y
  obtain ⟨e, k1, k2⟩ := ok_nat hy
  dsimp only at k1 k2
  subst k1
  obtain ⟨h1, h2, h3⟩ := vd_iff.1 k2
  have e1 : (z5.e.toNat - ((e : Int)).toNat) = 0 := by simp [z5]
  have e2 : ((e : Int)).toNat = e := by simp
  have e3 : z5.e.toNat = 0 := rfl
  unfold addS addR
  dsimp only
  rw [e1, e2, e3]
  simp only [z5, raisS, Nat.sub_zero, raisS_0, Int.zero_add, Nat.zero_add, h1, if_true, low_fix h3]
  rfl
theorem mulS_one {z : Bool} {y : D5} (hy : y.ok = true) : mulS z one5 y = (y, z) := by
  obtain ⟨a, b, c, d, e'⟩ := y
  obtain ⟨e, k1, k2⟩ := ok_nat hy
  dsimp only at k1 k2
  subst k1
  obtain ⟨h1, h2, h3⟩ := vd_iff.1 k2
  have e2 : ((e : Int)).toNat = e := by simp
  have e3 : one5.e.toNat = 0 := rfl
  have m0' : ∀ p q r s : Int, m0 1 0 0 0 p q r s = p := by intros; simp [m0]
  have m1' : ∀ p q r s : Int, m1 1 0 0 0 p q r s = q := by intros; simp [m1]
  have m2' : ∀ p q r s : Int, m2 1 0 0 0 p q r s = r := by intros; simp [m2]
  have m3' : ∀ p q r s : Int, m3 1 0 0 0 p q r s = s := by intros; simp [m3]
  unfold mulS
  dsimp only
  rw [e2, e3]
  simp only [one5, m0', m1', m2', m3', Nat.zero_add, h1, h2, if_true, low_fix h3]
  rfl
end Go.Proofs.Ytofclfgaekjonaa
namespace Go.Proofs.Ytofclfgaekjonaa
open Go.RowKit RM
set_option linter.unusedVariables false
set_option linter.unusedSimpArgs false
attribute [local irreducible] World.setCell

def turn (m : Nat) (x : D5) : D5 :=
  match m with
  | 0 => ⟨x.a, x.b, x.c, x.d, x.e⟩
  | 1 => ⟨-x.d, x.a, x.b, x.c, x.e⟩
  | 2 => ⟨-x.c, -x.d, x.a, x.b, x.e⟩
  | 3 => ⟨-x.b, -x.c, -x.d, x.a, x.e⟩
  | 4 => ⟨-x.a, -x.b, -x.c, -x.d, x.e⟩
  | 5 => ⟨x.d, -x.a, -x.b, -x.c, x.e⟩
  | 6 => ⟨x.c, x.d, -x.a, -x.b, x.e⟩
  | _ => ⟨x.b, x.c, x.d, -x.a, x.e⟩
def omP (m : Nat) : D5 := turn m one5
theorem lt8 {m : Nat} (h : m < 8) : m = 0 ∨ m = 1 ∨ m = 2 ∨ m = 3 ∨ m = 4 ∨ m = 5 ∨ m = 6 ∨ m = 7 := by omega
theorem turn_e {m : Nat} {x : D5} : (turn m x).e = x.e := by unfold turn; split <;> rfl
theorem tm8 {k : Int} {m : Nat} (h : k % 8 = (m : Int)) (hm : m < 8) : -7 ≤ k.tmod 8 ∧ k.tmod 8 ≤ 7 ∧ (k.tmod 8 + 8) % 8 = (m : Int) ∧ (k.tmod 8 + 8).tmod 8 = (m : Int) := by
  have h1 : -7 ≤ k.tmod 8 ∧ k.tmod 8 ≤ 7 ∧ (k.tmod 8 + 8) % 8 = (m : Int) := by
    rcases Int.le_total 0 k with h0 | h0
    · rw [Int.tmod_eq_emod_of_nonneg h0]; omega
    · obtain ⟨n, rfl⟩ : ∃ n : Int, k = -n := ⟨-k, by omega⟩
      rw [Int.neg_tmod, Int.tmod_eq_emod_of_nonneg (by omega)]; omega
  refine ⟨h1.1, h1.2.1, h1.2.2, ?_⟩
  rw [Int.tmod_eq_emod_of_nonneg (by omega)]; exact h1.2.2
theorem ev2_iff {a b c d : Int} : ev2 a b c d = true ↔ (a + c) % 2 = 0 ∧ (b + d) % 2 = 0 := by
  unfold ev2
  rw [Bool.and_eq_true, beq_iff_eq, beq_iff_eq, ← Int.dvd_iff_tmod_eq_zero, ← Int.dvd_iff_tmod_eq_zero]; omega
theorem ev2_cong {a b c d p q r s : Int} (h : ((a + c) % 2 = 0 ∧ (b + d) % 2 = 0) ↔ ((p + r) % 2 = 0 ∧ (q + s) % 2 = 0)) : ev2 a b c d = ev2 p q r s := by
  rw [Bool.eq_iff_iff, ev2_iff, ev2_iff]; exact h
theorem turn_vd {m : Nat} {x : D5} {e : Nat} (hm : m < 8) (h : vd x.a x.b x.c x.d e = true) : vd (turn m x).a (turn m x).b (turn m x).c (turn m x).d e = true := by
  obtain ⟨h1, h2, h3⟩ := vd_iff.1 h
  refine vd_iff.2 ?_
  rcases lt8 hm with rfl | rfl | rfl | rfl | rfl | rfl | rfl | rfl
  · exact ⟨vr_turn_0 h1, h2, h3.imp id (fun k => by rw [← k]; exact ev2_cong (by show _ ↔ _; simp only [turn]; try omega))⟩
  · exact ⟨vr_turn_1 h1, h2, h3.imp id (fun k => by rw [← k]; exact ev2_cong (by show _ ↔ _; simp only [turn]; try omega))⟩
  · exact ⟨vr_turn_2 h1, h2, h3.imp id (fun k => by rw [← k]; exact ev2_cong (by show _ ↔ _; simp only [turn]; try omega))⟩
  · exact ⟨vr_turn_3 h1, h2, h3.imp id (fun k => by rw [← k]; exact ev2_cong (by show _ ↔ _; simp only [turn]; try omega))⟩
  · exact ⟨vr_turn_4 h1, h2, h3.imp id (fun k => by rw [← k]; exact ev2_cong (by show _ ↔ _; simp only [turn]; try omega))⟩
  · exact ⟨vr_turn_5 h1, h2, h3.imp id (fun k => by rw [← k]; exact ev2_cong (by show _ ↔ _; simp only [turn]; try omega))⟩
  · exact ⟨vr_turn_6 h1, h2, h3.imp id (fun k => by rw [← k]; exact ev2_cong (by show _ ↔ _; simp only [turn]; try omega))⟩
  · exact ⟨vr_turn_7 h1, h2, h3.imp id (fun k => by rw [← k]; exact ev2_cong (by show _ ↔ _; simp only [turn]; try omega))⟩
theorem turn_ok {m : Nat} {x : D5} (hm : m < 8) (hx : x.ok = true) : (turn m x).ok = true := by
  obtain ⟨e, h1, h2⟩ := ok_nat hx
  have := turn_vd hm h2
  unfold D5.ok
  rw [turn_e, h1, vi_nat]
  exact this
theorem mulS_om {m : Nat} {y : D5} (hm : m < 8) (hy : y.ok = true) : mulS false y (omP m) = (turn m y, false) := by
  obtain ⟨e, k1, k2⟩ := ok_nat hy
  have k3 := turn_vd hm k2
  obtain ⟨h1, h2, h3⟩ := vd_iff.1 k3
  have e2 : y.e.toNat = e := by rw [k1]; simp
  have e3 : (omP m).e.toNat = 0 := by unfold omP; rw [turn_e]; rfl
  have q0 : m0 y.a y.b y.c y.d (omP m).a (omP m).b (omP m).c (omP m).d = (turn m y).a := by
    rcases lt8 hm with rfl | rfl | rfl | rfl | rfl | rfl | rfl | rfl <;> simp [m0, omP, turn, one5]
  have q1 : m1 y.a y.b y.c y.d (omP m).a (omP m).b (omP m).c (omP m).d = (turn m y).b := by
    rcases lt8 hm with rfl | rfl | rfl | rfl | rfl | rfl | rfl | rfl <;> simp [m1, omP, turn, one5]
  have q2 : m2 y.a y.b y.c y.d (omP m).a (omP m).b (omP m).c (omP m).d = (turn m y).c := by
    rcases lt8 hm with rfl | rfl | rfl | rfl | rfl | rfl | rfl | rfl <;> simp [m2, omP, turn, one5]
  have q3 : m3 y.a y.b y.c y.d (omP m).a (omP m).b (omP m).c (omP m).d = (turn m y).d := by
    rcases lt8 hm with rfl | rfl | rfl | rfl | rfl | rfl | rfl | rfl <;> simp [m3, omP, turn, one5]
  have e4 : (turn m y).e = (e : Int) := by rw [turn_e, k1]
  unfold mulS
  rw [e2, e3, q0, q1, q2, q3, if_pos (by omega), if_pos h1, Nat.add_zero, low_fix h3]
  unfold ofDy
  dsimp only
  rw [← e4]
theorem omP_ok {m : Nat} (hm : m < 8) : (omP m).ok = true := turn_ok hm one5_ok
theorem omP_v {m : Nat} : (omP m).v = dy (turn m one5).a (turn m one5).b (turn m one5).c (turn m one5).d 0 := by
  show dy _ _ _ _ (turn m one5).e = _
  rw [turn_e]; rfl
theorem mo_i {a b c d e k : Int} {m : Nat} {w : World} (hm : m < 8) (h : k % 8 = (m : Int)) (g1 : -1000 ≤ k) (g2 : k ≤ 1000) (hx : vr a b c d = true) :
    Calls Try.prog 137 #[rg a b c d, .int .i64 k] w fun ee w' => ee = .returned (rt (turn m ⟨a, b, c, d, e⟩).a (turn m ⟨a, b, c, d, e⟩).b (turn m ⟨a, b, c, d, e⟩).c (turn m ⟨a, b, c, d, e⟩).d true) ∧ Below w.heap.size w w' := by
  obtain ⟨t1, t2, t3, t4⟩ := tm8 h hm
  rcases lt8 hm with rfl | rfl | rfl | rfl | rfl | rfl | rfl | rfl
  · exact omega_i_0 a b c d k w t1 t2 t3 t4 g1 g2 hx
  · exact omega_i_1 a b c d k w t1 t2 t3 t4 g1 g2 hx
  · exact omega_i_2 a b c d k w t1 t2 t3 t4 g1 g2 hx
  · exact omega_i_3 a b c d k w t1 t2 t3 t4 g1 g2 hx
  · exact omega_i_4 a b c d k w t1 t2 t3 t4 g1 g2 hx
  · exact omega_i_5 a b c d k w t1 t2 t3 t4 g1 g2 hx
  · exact omega_i_6 a b c d k w t1 t2 t3 t4 g1 g2 hx
  · exact omega_i_7 a b c d k w t1 t2 t3 t4 g1 g2 hx
theorem tn_s {a b c d e k : Int} {m : Nat} {w : World} (hm : m < 8) (h : k % 8 = (m : Int)) (hx : vr a b c d = true) :
    Calls Try.prog 161 #[rg a b c d, .int .i64 k] w fun ee w' => ee = .returned (rg (turn m ⟨a, b, c, d, e⟩).a (turn m ⟨a, b, c, d, e⟩).b (turn m ⟨a, b, c, d, e⟩).c (turn m ⟨a, b, c, d, e⟩).d) ∧ Below w.heap.size w w' := by
  obtain ⟨t1, t2, t3, t4⟩ := tm8 h hm
  rcases lt8 hm with rfl | rfl | rfl | rfl | rfl | rfl | rfl | rfl
  · exact tn_0 a b c d k w t1 t2 t3 t4 hx
  · exact tn_1 a b c d k w t1 t2 t3 t4 hx
  · exact tn_2 a b c d k w t1 t2 t3 t4 hx
  · exact tn_3 a b c d k w t1 t2 t3 t4 hx
  · exact tn_4 a b c d k w t1 t2 t3 t4 hx
  · exact tn_5 a b c d k w t1 t2 t3 t4 hx
  · exact tn_6 a b c d k w t1 t2 t3 t4 hx
  · exact tn_7 a b c d k w t1 t2 t3 t4 hx
theorem mo_1 {k : Int} {m : Nat} {w : World} (hm : m < 8) (h : k % 8 = (m : Int)) (g1 : -1000 ≤ k) (g2 : k ≤ 1000) :
    Calls Try.prog 137 #[rg 1 0 0 0, .int .i64 k] w fun ee w' => ee = .returned (rt (turn m one5).a (turn m one5).b (turn m one5).c (turn m one5).d true) ∧ Below w.heap.size w w' :=
  mo_i (e := 0) hm h g1 g2 (by decide)

set_option maxRecDepth 100000 in
set_option maxHeartbeats 2000000 in
theorem omp {k : Int} {m : Nat} {w : World} (hm : m < 8) (h : k % 8 = (m : Int)) (g1 : -1000 ≤ k) (g2 : k ≤ 1000) :
    Calls Try.prog 80 #[.int .i64 k] w fun ee w' => ee = .returned (omP m).v ∧ Below w.heap.size w w' := by
  rw [omP_v]
  have HM := hid hm
  have HH := hid h
  clear hm h
  go_enter Try.func80, Try.ntmps80
  go_wp2_with (fail)
  refine (mo_1 HM.out HH.out g1 g2).mono ?_
  rintro ee w1 ⟨rfl, hb1⟩
  obtain ⟨hc1, hf1, _⟩ := bcell hb1; have hz1 := hb1.size; (try simp at hz1); (try have hx10 : w.heap.size < w1.heap.size := (by omega)); (try have hx11 : w.heap.size + 1 < w1.heap.size := (by omega)); (try have hx12 : w.heap.size + 1 + 1 < w1.heap.size := (by omega)); (try have hx13 : w.heap.size + 1 + 1 + 1 < w1.heap.size := (by omega))
  go_wp2_with (fail)
  refine bodyPost_ret (v := dy (turn m one5).a (turn m one5).b (turn m one5).c (turn m one5).d 0) (by first | (simp [results, Try.results80, go_sem, *]; done) | (simp (disch := (first | omega | (simp; done) | (simp; omega))) [results, Try.results80, go_sem, *]; done) | (simp only [results, Try.results80]; go_simp; done)) rfl ⟨rfl, ?_⟩
  (repeat' (first | (with_reducible exact Below.refl _ _) | (with_reducible assumption) | (with_reducible refine Below.alloc ?_ ?_ _) | (with_reducible refine Below.drew ?_) | (with_reducible refine below_drewN ?_ _) | (with_reducible refine Below.setCell ?_ ?_ _) | (with_reducible refine chain ?_ (by assumption) ?_) | omega | (simp; done) | (simp; omega)))

end Go.Proofs.Ytofclfgaekjonaa
namespace Go.Proofs.Ytofclfgaekjonaa.GM
/-- the number in which qubit q alone is 1 -/
def msk (n q : Nat) : Nat := 2 ^ (n - 1 - q)
def bitI (n k q : Nat) : Nat := bif (k &&& msk n q).beq 0 then 0 else 1
def bitS (n k q : Nat) : Nat := k / msk n q % 2
/-- the program: what a gate of one term makes of a basis state: its number and the power of w (modulo 8) -/
def act (n kind A B c : Nat) : Nat × Nat :=
  match kind with
  | 2 => (c ^^^ msk n A, 0)
  | 3 => (c ^^^ msk n A, 4 * bitI n c A + 2)
  | 4 => (c, 4 * bitI n c A)
  | 5 => (c, 2 * bitI n c A)
  | 6 => (c, (8 - 2 * bitI n c A) % 8)
  | 7 => (c, bitI n c A)
  | 8 => (c, (8 - bitI n c A) % 8)
  | 9 => (bif (bitI n c A).beq 0 then c else c ^^^ msk n B, 0)
  | 10 => (c, 4 * bitI n c A * bitI n c B)
  | 11 => (bif (bitI n c A).beq (bitI n c B) then c else c ^^^ msk n A ^^^ msk n B, 0)
  | _ => (c, 1)
/-- cells by code: 0: zero; 1 + k + 8 e: the k-th power of w by the e-th power of the square root of 2 -/
def gI (n kind A B r c : Nat) : Nat :=
  match kind with
  | 1 => bif r.beq c then 9 + 4 * bitI n c A else bif r.beq (c ^^^ msk n A) then 9 else 0
  | _ => bif r.beq (act n kind A B c).1 then 1 + (act n kind A B c).2 % 8 else 0
def one (kind : Nat) : Nat → Nat :=
  match kind with
  | 1 => fun i => bif i.beq 3 then 13 else 9
  | 2 => fun i => bif i.beq 0 then 0 else bif i.beq 3 then 0 else 1
  | 3 => fun i => bif i.beq 1 then 7 else bif i.beq 2 then 3 else 0
  | k => fun i => bif i.beq 0 then 1 else bif i.beq 3 then (match k with | 4 => 5 | 5 => 3 | 6 => 7 | 7 => 2 | _ => 8) else 0
/-- the model -/
def gS (n kind A B r c : Nat) : Nat :=
  match kind with
  | 12 => bif r.beq c then 2 else 0
  | 9 => bif r.beq (bif (bitS n c A).beq 1 then c ^^^ msk n B else c) then 1 else 0
  | 10 => bif r.beq c then (bif (bitS n c A).beq 1 && (bitS n c B).beq 1 then 5 else 1) else 0
  | 11 => bif r.beq (bif (bitS n c A).beq (bitS n c B) then c else c ^^^ msk n A ^^^ msk n B) then 1 else 0
  | k => bif ((r ^^^ c) - ((r ^^^ c) &&& msk n A)).beq 0 then one k (2 * bitS n r A + bitS n c A) else 0
def allN : Nat → (Nat → Bool) → Bool
  | 0, _ => true
  | n + 1, f => f n && allN n f
theorem allN_get {n : Nat} {f : Nat → Bool} (h : allN n f = true) {k : Nat} (hk : k < n) : f k = true := by
  induction n with
  | zero => omega
  | succ n ih =>
    simp only [allN, Bool.and_eq_true] at h
    by_cases e : k = n
    · subst e; exact h.1
    · exact ih h.2 (by omega)
def chk (n kind A B : Nat) : Bool := allN (2 ^ n) fun r => allN (2 ^ n) fun c => (gI n kind A B r c).beq (gS n kind A B r c)
def chk1 (n : Nat) : Bool := allN n fun A => allN 8 fun k => chk n (k + 1) A 0
def chk2 (n : Nat) : Bool := allN n fun A => allN n fun B => A.beq B || allN 3 fun k => chk n (k + 9) A B
set_option maxRecDepth 1000000 in
theorem c11 : chk1 1 = true := by decide +kernel
set_option maxRecDepth 1000000 in
theorem c12 : chk1 2 = true := by decide +kernel
set_option maxRecDepth 1000000 in
theorem c13 : chk1 3 = true := by decide +kernel
set_option maxRecDepth 1000000 in
theorem c14 : chk1 4 = true := by decide +kernel
set_option maxRecDepth 1000000 in
theorem c22 : chk2 2 = true := by decide +kernel
set_option maxRecDepth 1000000 in
theorem c23 : chk2 3 = true := by decide +kernel
set_option maxRecDepth 1000000 in
theorem c24 : chk2 4 = true := by decide +kernel
set_option maxRecDepth 1000000 in
theorem c15 : chk1 5 = true := by decide +kernel
set_option maxRecDepth 1000000 in
theorem c25 : chk2 5 = true := by decide +kernel
set_option maxRecDepth 1000000 in
theorem cw : (allN 5 fun n => chk (n + 1) 12 0 0) = true := by decide +kernel
/-- a valid gate, by its three numbers -/
def okG (n kind A B : Nat) : Prop := 1 ≤ n ∧ n ≤ 5 ∧ ((1 ≤ kind ∧ kind ≤ 8 ∧ A < n ∧ B = 0) ∨ (9 ≤ kind ∧ kind ≤ 11 ∧ A < n ∧ B < n ∧ A ≠ B) ∨ (kind = 12 ∧ A = 0 ∧ B = 0))
theorem beqEq {a b : Nat} (h : a.beq b = true) : a = b := Nat.eq_of_beq_eq_true h
theorem chk1_n {n : Nat} (h1 : 1 ≤ n) (h2 : n ≤ 5) : chk1 n = true := by
  have : n = 1 ∨ n = 2 ∨ n = 3 ∨ n = 4 ∨ n = 5 := by omega
  rcases this with rfl | rfl | rfl | rfl | rfl
  · exact c11
  · exact c12
  · exact c13
  · exact c14
  · exact c15
theorem chk2_n {n : Nat} (h1 : 2 ≤ n) (h2 : n ≤ 5) : chk2 n = true := by
  have : n = 2 ∨ n = 3 ∨ n = 4 ∨ n = 5 := by omega
  rcases this with rfl | rfl | rfl | rfl
  · exact c22
  · exact c23
  · exact c24
  · exact c25
theorem chk_ok {n kind A B : Nat} (h : okG n kind A B) : chk n kind A B = true := by
  obtain ⟨h1, h2, h3⟩ := h
  rcases h3 with ⟨k1, k2, k3, rfl⟩ | ⟨k1, k2, k3, k4, k5⟩ | ⟨rfl, rfl, rfl⟩
  · have := allN_get (allN_get (chk1_n h1 h2) k3) (k := kind - 1) (by omega)
    rwa [show kind - 1 + 1 = kind by omega] at this
  · have := allN_get (allN_get (chk2_n (by omega) h2) k3) k4
    rw [Bool.or_eq_true] at this
    rcases this with h | h
    · exact absurd (beqEq h) k5
    · have := allN_get h (k := kind - 9) (by omega)
      rwa [show kind - 9 + 9 = kind by omega] at this
  · have := allN_get cw (k := n - 1) (by omega)
    rwa [show n - 1 + 1 = n by omega] at this
theorem gI_gS {n kind A B r c : Nat} (h : okG n kind A B) (hr : r < 2 ^ n) (hc : c < 2 ^ n) : gI n kind A B r c = gS n kind A B r c :=
  beqEq (allN_get (allN_get (chk_ok h) hr) hc)
theorem msk_lt {n q : Nat} (h : q < n) : msk n q < 2 ^ n := Nat.pow_lt_pow_right (by decide) (by omega)
theorem flip_lt {n q c : Nat} (hc : c < 2 ^ n) (h : q < n) : c ^^^ msk n q < 2 ^ n := Nat.xor_lt_two_pow hc (msk_lt h)
theorem pow_le {n : Nat} (h : n ≤ 5) : 2 ^ n ≤ 32 := Nat.pow_le_pow_right (by decide) h
theorem bitI_01 {n c q : Nat} : bitI n c q = 0 ∨ bitI n c q = 1 := by unfold bitI; cases (c &&& msk n q).beq 0 <;> simp
theorem bitI_iff {n c q : Nat} : bitI n c q = 0 ↔ c &&& msk n q = 0 := by
  unfold bitI
  cases h : (c &&& msk n q).beq 0
  · constructor
    · intro h2; simp at h2
    · intro h2; rw [h2] at h; simp at h
  · simp only [cond_true, true_iff]; exact beqEq h
end Go.Proofs.Ytofclfgaekjonaa.GM
namespace Go
section
variable {P : Program} {ops : Array Oper} {Q : Exit → Act → World → Prop} {md : Region.Mode} {S : World → Prop} {L : Nat}

/-- Whatever order is picked, and S holds behind every operation but number L. -/
def wpAnyX (P : Program) (md : Region.Mode) (ops : Array Oper) (Q : Exit → Act → World → Prop) (S : World → Prop) (L : Nat) : Nat → Array Bool → Act → World → Prop
  | 0, listed, a, w => Region.ready md ops listed = [] ∧ Q .normal a w
  | fuel + 1, listed, a, w =>
    (Region.ready md ops listed = [] → Q .normal a w) ∧
    ∀ i ∈ Region.ready md ops listed, wpOp P ops Q i (fun a' w' => (i ≠ L → S w') ∧ wpAnyX P md ops Q S L fuel (listed.setIfInBounds i true) a' w') a w

theorem wpAny_of_x : ∀ (fuel : Nat) (listed : Array Bool) (a : Act) (w : World), wpAnyX P md ops Q S L fuel listed a w → wpAny P md ops Q fuel listed a w
  | 0, _, _, _, h => h
  | fuel + 1, _, _, _, h => ⟨h.1, fun i hi => wpOp_mono (fun a' w' h' => wpAny_of_x fuel _ a' w' h'.2) (h.2 i hi)⟩

theorem wpAnyX_first {i : Nat} {oi : Oper} {v : Value} (hi : ops[i]? = some oi) (hsel : ∀ (j : Nat) (o : Oper) cs b, ops[j]? = some o → o.op ≠ .select cs b)
    (hQ : ∀ c a w, Q (.panic c) (a.put oi.dst v) w → Q (.panic c) a w)
    (hL : ∀ o, ops[L]? = some o → ∃ e ∈ o.after, Region.binds md e = true ∧ e.on = i) :
    ∀ (fuel : Nat) (listed : Array Bool) (a : Act) (w : World),
      (∀ j oj, ops[j]? = some oj → j ≠ i → listed.getD j true = false → (∀ e ∈ oj.after, Region.binds md e = true → e.on ≠ i) → oi.apart ops oj = true) →
      i ∈ Region.ready md ops listed → YieldsIf P ops S oi v a → S w →
      wpAnyX P md ops Q S L fuel (listed.setIfInBounds i true) (a.put oi.dst v) w → wpAnyX P md ops Q S L (fuel + 1) listed a w := by
  intro fuel
  induction fuel with
  | zero =>
    intro listed a w _ hr hy hS H
    refine ⟨fun h => (by rw [h] at hr; cases hr), fun j hj => ?_⟩
    by_cases hji : j = i
    · subst hji; exact hy.wpOp hi hS ⟨fun _ => hS, H⟩
    · have := ready_mono hj hji
      rw [H.1] at this
      cases this
  | succ fuel ih =>
    intro listed a w hfree hr hy hS H
    refine ⟨fun h => (by rw [h] at hr; cases hr), fun j hj => ?_⟩
    by_cases hji : j = i
    · subst hji; exact hy.wpOp hi hS ⟨fun _ => hS, H⟩
    · have h1 := H.2 j (ready_mono hj hji)
      obtain ⟨hjun, oj, hoj, hall⟩ := mem_ready.1 hj
      have hnot : ∀ e ∈ oj.after, Region.binds md e = true → e.on ≠ i := fun e he hb heq => by
        have h1 := hall e he hb
        have h0 := (mem_ready.1 hr).1
        rw [heq] at h1
        rcases Nat.lt_or_ge i listed.size with h' | h'
        · simp [h'] at h0 h1; rw [h0] at h1; cases h1
        · simp [Array.getElem?_eq_none h'] at h1
      have hjL : j ≠ L := fun e => by
        subst e
        obtain ⟨e, he, hb, ho⟩ := hL oj hoj
        exact hnot e he hb ho
      have h2 := wpOp_putIf hoj (hfree j oj hoj hji hjun hnot) (fun cs b => hsel i oi cs b hi) (fun cs b => hsel j oj cs b hoj) hQ hy h1
      have hfree' : ∀ k ok, ops[k]? = some ok → k ≠ i → (listed.setIfInBounds j true).getD k true = false →
          (∀ e ∈ ok.after, Region.binds md e = true → e.on ≠ i) → oi.apart ops ok = true := fun k ok hk hki hun hno => by
        refine hfree k ok hk hki ?_ hno
        by_cases hjk : j = k
        · subst hjk; exact hjun
        · rw [getD_set_ne true hjk] at hun; exact hun
      refine wpOp_mono (fun a' w' h3 => ⟨fun _ => h3.2.1 hjL, ih (listed.setIfInBounds j true) a' w' hfree' (ready_mono hr (Ne.symm hji)) h3.1 (h3.2.1 hjL) ?_⟩) h2
      rw [Array.setIfInBounds_comm _ _ hji]
      exact h3.2.2

/-- does operation L wait for number i? -/
def waitsOn (md : Region.Mode) (ops : Array Oper) (L i : Nat) : Bool :=
  match ops[L]? with
  | some o => o.after.toList.any fun e => Region.binds md e && e.on == i
  | none => true
theorem waitsOn_spec {i : Nat} (h : waitsOn md ops L i = true) : ∀ o, ops[L]? = some o → ∃ e ∈ o.after, Region.binds md e = true ∧ e.on = i := by
  intro o ho
  unfold waitsOn at h
  rw [ho] at h
  obtain ⟨e, he, hb⟩ := List.any_eq_true.1 h
  simp only [Bool.and_eq_true, beq_iff_eq] at hb
  exact ⟨e, by simpa using he, hb.1, hb.2⟩

theorem wpAnyX_take {i : Nat} {oi : Oper} {v : Value} {fuel : Nat} {listed : Array Bool} {a : Act} {w : World} (hi : ops[i]? = some oi)
    (hs : Region.noSelect ops = true) (hf : Region.free md ops listed i = true) (hr : (Region.ready md ops listed).contains i = true) (hw : waitsOn md ops L i = true)
    (hQ : ∀ c a w, Q (.panic c) (a.put oi.dst v) w → Q (.panic c) a w) (hy : YieldsIf P ops S oi v a) (hS : S w)
    (h : wpAnyX P md ops Q S L fuel (listed.setIfInBounds i true) (a.put oi.dst v) w) : wpAnyX P md ops Q S L (fuel + 1) listed a w :=
  wpAnyX_first hi (Region.noSelect_spec hs) hQ (waitsOn_spec hw) fuel listed a w (Region.free_spec hi hf) (by simpa using hr) hy hS h

/-- Only number i may come up: what it does, and S behind it if it isn't the last. -/
theorem wpAnyX_one {i : Nat} {o : Oper} {fuel : Nat} {listed : Array Bool} {a : Act} {w : World} (ho : ops[i]? = some o) (hr : Region.ready md ops listed = [i])
    (h : ∀ K' : Act → World → Prop, Shut (∀ a w, (i ≠ L → S w) → ((i ≠ L → S w) → wpAnyX P md ops Q S L fuel (listed.setIfInBounds i true) a w) → K' a w) → if Region.wanted o (yielded ops a.tmps) = true then Oper.wp P o a w K' Q else K' (a.put o.dst undef) w) :
    wpAnyX P md ops Q S L (fuel + 1) listed a w := by
  refine ⟨fun h0 => (by rw [hr] at h0; cases h0), fun j hj => ?_⟩
  rw [hr] at hj
  obtain rfl : j = i := by simpa using hj
  exact wpOp_step ho (fun K' hK => h K' (fun a w hS hW => hK a w ⟨hS, hW hS⟩))

/-- Two may come up. -/
theorem wpAnyX_two {i j : Nat} {oi oj : Oper} {fuel : Nat} {listed : Array Bool} {a : Act} {w : World} (hi : ops[i]? = some oi) (hj : ops[j]? = some oj) (hr : Region.ready md ops listed = [i, j])
    (h1 : ∀ K' : Act → World → Prop, Shut (∀ a w, (i ≠ L → S w) → ((i ≠ L → S w) → wpAnyX P md ops Q S L fuel (listed.setIfInBounds i true) a w) → K' a w) → if Region.wanted oi (yielded ops a.tmps) = true then Oper.wp P oi a w K' Q else K' (a.put oi.dst undef) w)
    (h2 : ∀ K' : Act → World → Prop, Shut (∀ a w, (j ≠ L → S w) → ((j ≠ L → S w) → wpAnyX P md ops Q S L fuel (listed.setIfInBounds j true) a w) → K' a w) → if Region.wanted oj (yielded ops a.tmps) = true then Oper.wp P oj a w K' Q else K' (a.put oj.dst undef) w) :
    wpAnyX P md ops Q S L (fuel + 1) listed a w := by
  refine ⟨fun h0 => (by rw [hr] at h0; cases h0), fun k hk => ?_⟩
  rw [hr] at hk
  simp only [List.mem_cons, List.not_mem_nil, or_false] at hk
  rcases hk with rfl | rfl
  · exact wpOp_step hi (fun K' hK => h1 K' (fun a w hS hW => hK a w ⟨hS, hW hS⟩))
  · exact wpOp_step hj (fun K' hK => h2 K' (fun a w hS hW => hK a w ⟨hS, hW hS⟩))

theorem wpAnyX_done {listed : Array Bool} {a : Act} {w : World} (hr : Region.ready md ops listed = []) (h : Q .normal a w) :
    ∀ fuel, wpAnyX P md ops Q S L fuel listed a w
  | 0 => ⟨hr, h⟩
  | _ + 1 => ⟨fun _ => h, by rw [hr]; simp⟩

/-- The beginning: from the world behind the draw. -/
theorem wp_region_x (S : World → Prop) (L : Nat) {id : Nat} {a : Act} {w : World} (hm : P.follows .mixedOrders = true) (hS : S w.drew)
    (h : S w.drew → wpAnyX P .any ops Q S L ops.size (Array.replicate ops.size false) a w.drew) : (Code.region id ops true).wp P Q a w :=
  wp_region_any hm (wpAny_of_x _ _ _ _ (h hS))
end
theorem kst5 {a : World} {g k o o0 o1 o2 o3 o4 : Nat} {v v0 v1 v2 v3 v4 : Value} (hne : g ≠ k) (h : a.cell? ⟨k, o, none⟩ = some v) : (((((a.setCell ⟨g, o0, none⟩ v0).setCell ⟨g, o1, none⟩ v1).setCell ⟨g, o2, none⟩ v2).setCell ⟨g, o3, none⟩ v3).setCell ⟨g, o4, none⟩ v4).cell? ⟨k, o, none⟩ = some v := by
  rw [World.cell?_setCell_far _ _ _ _ hne, World.cell?_setCell_far _ _ _ _ hne, World.cell?_setCell_far _ _ _ _ hne, World.cell?_setCell_far _ _ _ _ hne, World.cell?_setCell_far _ _ _ _ hne, h]
end Go
