/- OmegaId, MathD, ArrEq -/
import Derived.Test.YtgcligmpdlffoaaZp1
import Derived.Deep.RegionWith
import Derived.ChangeKeysEq
namespace Go.Proofs.Ytgcligmpdlffoaa
open Go.RowKit RM
set_option linter.unusedVariables false
set_option linter.unusedSimpArgs false
theorem vr_turn_6 {a b c d : Int} (h : vr a b c d = true) : vr c d (-a) (-b) = true := by
  rw [vr_iff] at *; omega
theorem mc_6 (a b c d : Int) (w : World) (hx : vr a b c d = true) :
    Calls Try.prog 181 #[rg a b c d, rg 0 0 (-1) 0] w fun e w' => e = .returned (rg c d (-a) (-b)) ∧ Below w.heap.size w w' := by
  have h := mc a b c d 0 0 (-1) 0 w hx (by decide)
  have e0 : m0 a b c d 0 0 (-1) 0 = c := by simp [m0]
  have e1 : m1 a b c d 0 0 (-1) 0 = d := by simp [m1]
  have e2 : m2 a b c d 0 0 (-1) 0 = -a := by simp [m2]
  have e3 : m3 a b c d 0 0 (-1) 0 = -b := by simp [m3]
  rw [e0, e1, e2, e3] at h
  exact h

set_option maxRecDepth 100000 in
set_option maxHeartbeats 2000000 in
theorem omega_i_6 (a b c d k : Int) (w : World) (t1 : -7 ≤ k.tmod 8) (t2 : k.tmod 8 ≤ 7) (t3 : (k.tmod 8 + 8) % 8 = 6) (t4 : (k.tmod 8 + 8).tmod 8 = 6) (g1 : -1000 ≤ k) (g2 : k ≤ 1000) (hx : vr a b c d = true) :
    Calls Try.prog 151 #[rg a b c d, .int .i64 k] w fun e w' => e = .returned (rt c d (-a) (-b) true) ∧ Below w.heap.size w w' := by
  have HX := hid hx
  clear hx
  go_enter Try.func151, Try.ntmps151
  go_wp2_with (first | (go_at_call 174; ((with_reducible refine (iv_t _ _ _ _ _ HX.out).mono ?_); rintro e w1 ⟨rfl, hb1⟩; obtain ⟨hc1, hf1, _⟩ := bcell hb1; have hz1 := hb1.size; (try simp at hz1); (try have hx10 : w.heap.size < w1.heap.size := (by omega)); (try have hx11 : w.heap.size + 1 < w1.heap.size := (by omega)); (try have hx12 : w.heap.size + 1 + 1 < w1.heap.size := (by omega)); (try have hx13 : w.heap.size + 1 + 1 + 1 < w1.heap.size := (by omega)))))
  go_region_with (first
   | (go_at_call 182; ((with_reducible refine (co _ _ _ _ _).mono ?_); rintro e w3 ⟨rfl, hb3⟩; ((first | (have hq3 := bcell_drew hb3) | (have hq3 := bcell hb3))); obtain ⟨hc3, hf3, hz3⟩ := hq3; (try simp at hz3); (try have hx30 : w.heap.size < w3.heap.size := (by omega)); (try have hx31 : w.heap.size + 1 < w3.heap.size := (by omega)); (try have ho3 : w1.heap.size < w3.heap.size := (by omega))))
   | (go_at_call 181; ((with_reducible refine (mc_6 _ _ _ _ _ HX.out).mono ?_); rintro e w4 ⟨rfl, hb4⟩; ((first | (have hq4 := bcell_drew hb4) | (have hq4 := bcell hb4))); obtain ⟨hc4, hf4, hz4⟩ := hq4; (try simp at hz4); (try have hx40 : w.heap.size < w4.heap.size := (by omega)); (try have hx41 : w.heap.size + 1 < w4.heap.size := (by omega)); (try have ho4 : w1.heap.size < w4.heap.size := (by omega))))
   | (go_at_call 175; ((with_reducible refine (ro_t _ _ _ _ _ (vr_turn_6 HX.out)).mono ?_); rintro e w5 ⟨rfl, hb5⟩; ((first | (have hq5 := bcell_drew hb5) | (have hq5 := bcell hb5))); obtain ⟨hc5, hf5, hz5⟩ := hq5; (try simp at hz5); (try have hx50 : w.heap.size < w5.heap.size := (by omega)); (try have hx51 : w.heap.size + 1 < w5.heap.size := (by omega)); (try have ho5 : w1.heap.size < w5.heap.size := (by omega)))))
  all_goals (go_wp2; refine bodyPost_ret (v := rt c d (-a) (-b) true) (by simp [results, Try.results151, go_sem, *]) rfl ⟨rfl, ?_⟩)
  all_goals (repeat' (first | (with_reducible exact Below.refl _ _) | (with_reducible refine Below.alloc ?_ ?_ _) | (with_reducible refine Below.drew ?_) | (with_reducible refine Below.setCell ?_ ?_ _) | (with_reducible refine chain ?_ (by assumption) ?_) | omega | (simp; done) | (simp; omega)))
theorem vr_turn_7 {a b c d : Int} (h : vr a b c d = true) : vr b c d (-a) = true := by
  rw [vr_iff] at *; omega
theorem mc_7 (a b c d : Int) (w : World) (hx : vr a b c d = true) :
    Calls Try.prog 181 #[rg a b c d, rg 0 0 0 (-1)] w fun e w' => e = .returned (rg b c d (-a)) ∧ Below w.heap.size w w' := by
  have h := mc a b c d 0 0 0 (-1) w hx (by decide)
  have e0 : m0 a b c d 0 0 0 (-1) = b := by simp [m0]
  have e1 : m1 a b c d 0 0 0 (-1) = c := by simp [m1]
  have e2 : m2 a b c d 0 0 0 (-1) = d := by simp [m2]
  have e3 : m3 a b c d 0 0 0 (-1) = -a := by simp [m3]
  rw [e0, e1, e2, e3] at h
  exact h

set_option maxRecDepth 100000 in
set_option maxHeartbeats 2000000 in
theorem omega_i_7 (a b c d k : Int) (w : World) (t1 : -7 ≤ k.tmod 8) (t2 : k.tmod 8 ≤ 7) (t3 : (k.tmod 8 + 8) % 8 = 7) (t4 : (k.tmod 8 + 8).tmod 8 = 7) (g1 : -1000 ≤ k) (g2 : k ≤ 1000) (hx : vr a b c d = true) :
    Calls Try.prog 151 #[rg a b c d, .int .i64 k] w fun e w' => e = .returned (rt b c d (-a) true) ∧ Below w.heap.size w w' := by
  have HX := hid hx
  clear hx
  go_enter Try.func151, Try.ntmps151
  go_wp2_with (first | (go_at_call 174; ((with_reducible refine (iv_t _ _ _ _ _ HX.out).mono ?_); rintro e w1 ⟨rfl, hb1⟩; obtain ⟨hc1, hf1, _⟩ := bcell hb1; have hz1 := hb1.size; (try simp at hz1); (try have hx10 : w.heap.size < w1.heap.size := (by omega)); (try have hx11 : w.heap.size + 1 < w1.heap.size := (by omega)); (try have hx12 : w.heap.size + 1 + 1 < w1.heap.size := (by omega)); (try have hx13 : w.heap.size + 1 + 1 + 1 < w1.heap.size := (by omega)))))
  go_region_with (first
   | (go_at_call 182; ((with_reducible refine (co _ _ _ _ _).mono ?_); rintro e w3 ⟨rfl, hb3⟩; ((first | (have hq3 := bcell_drew hb3) | (have hq3 := bcell hb3))); obtain ⟨hc3, hf3, hz3⟩ := hq3; (try simp at hz3); (try have hx30 : w.heap.size < w3.heap.size := (by omega)); (try have hx31 : w.heap.size + 1 < w3.heap.size := (by omega)); (try have ho3 : w1.heap.size < w3.heap.size := (by omega))))
   | (go_at_call 181; ((with_reducible refine (mc_7 _ _ _ _ _ HX.out).mono ?_); rintro e w4 ⟨rfl, hb4⟩; ((first | (have hq4 := bcell_drew hb4) | (have hq4 := bcell hb4))); obtain ⟨hc4, hf4, hz4⟩ := hq4; (try simp at hz4); (try have hx40 : w.heap.size < w4.heap.size := (by omega)); (try have hx41 : w.heap.size + 1 < w4.heap.size := (by omega)); (try have ho4 : w1.heap.size < w4.heap.size := (by omega))))
   | (go_at_call 175; ((with_reducible refine (ro_t _ _ _ _ _ (vr_turn_7 HX.out)).mono ?_); rintro e w5 ⟨rfl, hb5⟩; ((first | (have hq5 := bcell_drew hb5) | (have hq5 := bcell hb5))); obtain ⟨hc5, hf5, hz5⟩ := hq5; (try simp at hz5); (try have hx50 : w.heap.size < w5.heap.size := (by omega)); (try have hx51 : w.heap.size + 1 < w5.heap.size := (by omega)); (try have ho5 : w1.heap.size < w5.heap.size := (by omega)))))
  all_goals (go_wp2; refine bodyPost_ret (v := rt b c d (-a) true) (by simp [results, Try.results151, go_sem, *]) rfl ⟨rfl, ?_⟩)
  all_goals (repeat' (first | (with_reducible exact Below.refl _ _) | (with_reducible refine Below.alloc ?_ ?_ _) | (with_reducible refine Below.drew ?_) | (with_reducible refine Below.setCell ?_ ?_ _) | (with_reducible refine chain ?_ (by assumption) ?_) | omega | (simp; done) | (simp; omega)))
end Go.Proofs.Ytgcligmpdlffoaa
namespace Go.Proofs.Ytgcligmpdlffoaa.RM
/-- four numbers and an exponent -/
structure Dy where
  a : Int
  b : Int
  c : Int
  d : Int
  e : Nat
/-- divisible by the square root of 2 -/
def ev2 (a b c d : Int) : Bool := ((a + c).tmod 2 == 0) && ((b + d).tmod 2 == 0)
/-- the lowest form -/
def low : Nat → Int → Int → Int → Int → Dy
  | 0, a, b, c, d => ⟨a, b, c, d, 0⟩
  | e + 1, a, b, c, d => if ev2 a b c d then low e ((b - d).tdiv 2) ((a + c).tdiv 2) ((b + d).tdiv 2) ((c - a).tdiv 2) else ⟨a, b, c, d, e + 1⟩
theorem td2' (x : Int) : 2 * (x.tdiv 2).natAbs ≤ x.natAbs := by
  rw [Int.natAbs_tdiv]; show 2 * (x.natAbs / 2) ≤ _; omega
theorem vr_half {a b c d : Int} (h : vr a b c d = true) : vr ((b - d).tdiv 2) ((a + c).tdiv 2) ((b + d).tdiv 2) ((c - a).tdiv 2) = true := by
  rw [vr_iff] at *
  have h1 := td2' (b - d)
  have h2 := td2' (a + c)
  have h3 := td2' (b + d)
  have h4 := td2' (c - a)
  omega
theorem low_vr (e : Nat) : ∀ {a b c d : Int} {A B C D : Int} {E : Nat}, vr a b c d = true → low e a b c d = ⟨A, B, C, D, E⟩ → vr A B C D = true ∧ E ≤ e ∧ (E = 0 ∨ ev2 A B C D = false) := by
  induction e with
  | zero => intro a b c d A B C D E h hl; simp only [low, Dy.mk.injEq] at hl; obtain ⟨rfl, rfl, rfl, rfl, rfl⟩ := hl; exact ⟨h, Nat.le_refl _, Or.inl rfl⟩
  | succ e ih =>
    intro a b c d A B C D E h hl
    rw [low] at hl
    split at hl
    · obtain ⟨h1, h2, h3⟩ := ih (vr_half h) hl
      exact ⟨h1, by omega, h3⟩
    · rename_i hn
      simp only [Dy.mk.injEq] at hl
      obtain ⟨rfl, rfl, rfl, rfl, rfl⟩ := hl
      exact ⟨h, Nat.le_refl _, Or.inr (by simpa using hn)⟩
theorem low_fix {e : Nat} {a b c d : Int} (h : e = 0 ∨ ev2 a b c d = false) : low e a b c d = ⟨a, b, c, d, e⟩ := by
  cases e with
  | zero => rfl
  | succ e => rw [low, if_neg (by simpa using h)]
/-- a dyadic number that is valid -/
def vd (a b c d : Int) (e : Nat) : Bool := vr a b c d && decide (e ≤ 60) && (decide (e = 0) || !ev2 a b c d)
theorem vd_iff {a b c d : Int} {e : Nat} : vd a b c d e = true ↔ vr a b c d = true ∧ e ≤ 60 ∧ (e = 0 ∨ ev2 a b c d = false) := by
  unfold vd; simp [and_assoc]
theorem low_vd {e : Nat} {a b c d A B C D : Int} {E : Nat} (hx : vr a b c d = true) (he : e ≤ 60) (hl : low e a b c d = ⟨A, B, C, D, E⟩) : vd A B C D E = true := by
  obtain ⟨h1, h2, h3⟩ := low_vr e hx hl
  exact vd_iff.2 ⟨h1, by omega, h3⟩
theorem low_ne {e : Nat} {a b c d A B C D : Int} {E : Nat} (hx : vr a b c d = true) (h : ¬ (e = 0 ∨ ev2 a b c d = false)) (hl : low e a b c d = ⟨A, B, C, D, E⟩) : E ≠ e := by
  cases e with
  | zero => exact absurd (Or.inl rfl) h
  | succ e =>
    rw [low, if_pos (by simp at h; exact h)] at hl
    have := (low_vr e (vr_half hx) hl).2.1
    omega
/-- four numbers -/
structure R4 where
  a : Int
  b : Int
  c : Int
  d : Int
/-- raise n times by the square root of 2, as the program does: stops at the first that is not valid -/
def rais : Nat → Int → Int → Int → Int → Option R4
  | 0, a, b, c, d => some ⟨a, b, c, d⟩
  | n + 1, a, b, c, d => if vr (b - d) (a + c) (b + d) (c - a) then rais n (b - d) (a + c) (b + d) (c - a) else none
/-- the same as the model does: goes on with zero and remembers -/
def raisS : Nat → Int → Int → Int → Int → Bool → R4 × Bool
  | 0, a, b, c, d, z => (⟨a, b, c, d⟩, z)
  | n + 1, a, b, c, d, z => if vr (b - d) (a + c) (b + d) (c - a) then raisS n (b - d) (a + c) (b + d) (c - a) z else raisS n 0 0 0 0 true
theorem raisS_bad (n : Nat) : ∀ {a b c d : Int} {A B C D : Int} {z : Bool}, vr a b c d = true → raisS n a b c d true = (⟨A, B, C, D⟩, z) → z = true ∧ vr A B C D = true := by
  induction n with
  | zero => intro a b c d A B C D z h hr; simp only [raisS, Prod.mk.injEq, R4.mk.injEq] at hr; obtain ⟨⟨rfl, rfl, rfl, rfl⟩, rfl⟩ := hr; exact ⟨rfl, h⟩
  | succ n ih =>
    intro a b c d A B C D z h hr
    rw [raisS] at hr
    split at hr
    · rename_i hv; exact ih hv hr
    · exact ih (by decide) hr
theorem raisS_some (n : Nat) : ∀ {a b c d : Int} {A B C D : Int}, vr a b c d = true → rais n a b c d = some ⟨A, B, C, D⟩ → raisS n a b c d false = (⟨A, B, C, D⟩, false) ∧ vr A B C D = true := by
  induction n with
  | zero => intro a b c d A B C D h hr; simp only [rais, Option.some.injEq, R4.mk.injEq] at hr; obtain ⟨rfl, rfl, rfl, rfl⟩ := hr; exact ⟨rfl, h⟩
  | succ n ih =>
    intro a b c d A B C D h hr
    rw [rais] at hr
    split at hr
    · rename_i hv
      obtain ⟨h1, h2⟩ := ih hv hr
      exact ⟨by rw [raisS, if_pos hv]; exact h1, h2⟩
    · cases hr
theorem raisS_none (n : Nat) : ∀ {a b c d : Int}, vr a b c d = true → rais n a b c d = none → ∃ A B C D : Int, raisS n a b c d false = (⟨A, B, C, D⟩, true) ∧ vr A B C D = true := by
  induction n with
  | zero => intro a b c d h hr; cases hr
  | succ n ih =>
    intro a b c d h hr
    rw [rais] at hr
    split at hr
    · rename_i hv
      obtain ⟨A, B, C, D, h1, h2⟩ := ih hv hr
      exact ⟨A, B, C, D, by rw [raisS, if_pos hv]; exact h1, h2⟩
    · rename_i hv
      rcases hq : raisS n 0 0 0 0 true with ⟨⟨A, B, C, D⟩, z⟩
      obtain ⟨h1, h2⟩ := raisS_bad n (by decide) hq
      exact ⟨A, B, C, D, by rw [raisS, if_neg hv, hq, h1], h2⟩
end Go.Proofs.Ytgcligmpdlffoaa.RM
namespace Go.Proofs.Ytgcligmpdlffoaa
open Go.RowKit RM
set_option linter.unusedSimpArgs false
theorem infoInt : ∃ i, Try.prog.info? 3 = some i := Option.isSome_iff_exists.1 (by kernel_rfl)
theorem cellsInt : Try.prog.cellsOf 3 = 1 := by kernel_rfl
theorem part_int (a b c d : Int) (w : World) : (part 3 #[.int .i64 a, .int .i64 b, .int .i64 c, .int .i64 d] 0).run Try.prog w = .ok (.int .i64 a) w ∧ (part 3 #[.int .i64 a, .int .i64 b, .int .i64 c, .int .i64 d] 1).run Try.prog w = .ok (.int .i64 b) w
    ∧ (part 3 #[.int .i64 a, .int .i64 b, .int .i64 c, .int .i64 d] 2).run Try.prog w = .ok (.int .i64 c) w ∧ (part 3 #[.int .i64 a, .int .i64 b, .int .i64 c, .int .i64 d] 3).run Try.prog w = .ok (.int .i64 d) w :=
  ⟨by kernel_rfl, by kernel_rfl, by kernel_rfl, by kernel_rfl⟩
theorem eq4 (k : Nat) (a b c d p q r s : Int) (w : World) : (Op.equalIn (k + 2) 179 (rg a b c d) (rg p q r s)).run Try.prog w = .ok (a == p && (b == q && (c == r && d == s))) w := by
  obtain ⟨i, hi⟩ := infoInt
  rw [run_equalIn_array w (k + 1) _ _ Try.underlying179 hi, cellsInt]
  obtain ⟨x0, x1, x2, x3⟩ := part_int a b c d w
  obtain ⟨y0, y1, y2, y3⟩ := part_int p q r s w
  have r4 : List.range 4 = [0, 1, 2, 3] := rfl
  have e0 := fun w => run_equalIn_int w k 3 .i64 .i64 a p Try.underlying3
  have e1 := fun w => run_equalIn_int w k 3 .i64 .i64 b q Try.underlying3
  have e2 := fun w => run_equalIn_int w k 3 .i64 .i64 c r Try.underlying3
  have e3 := fun w => run_equalIn_int w k 3 .i64 .i64 d s Try.underlying3
  cases h0 : (a == p) <;> cases h1 : (b == q) <;> cases h2 : (c == r) <;> cases h3 : (d == s) <;> (rw [h0] at e0; rw [h1] at e1; rw [h2] at e2; rw [h3] at e3; simp [r4, Op.eqItems, x0, x1, x2, x3, y0, y1, y2, y3, e0, e1, e2, e3])
theorem run_neq4 (a b c d p q r s : Int) (v : Bool) (w : World) (h : (a == p && (b == q && (c == r && d == s))) = v) : (binOp .neq 179 (rg a b c d) (rg p q r s)).run Try.prog w = .ok (.bool (!v)) w := by
  subst h
  simp only [binOp]
  simp [Op.equal, Op.maxDepth, eq4 9998 a b c d p q r s w]
end Go.Proofs.Ytgcligmpdlffoaa
