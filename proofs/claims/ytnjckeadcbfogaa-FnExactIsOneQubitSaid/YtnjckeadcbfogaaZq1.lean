/- PfB, PfC, Math, MathD, Valid, OneArg -/
import Derived.Test.YtnjckeadcbfogaaZq0
import Derived.Test.YtnjckeadcbfogaaProg
import Derived.Handy
import Derived.LoopTactic
namespace Go.Proofs.Ytnjckeadcbfogaa
set_option linter.unusedSimpArgs false
theorem liftsFinal_of (P : Program) (R : List (List Char)) (hR : behindMainWord (wordsSigns P.initOrder.toList) = [Char.ofNat 99, Char.ofNat 117, Char.ofNat 116] :: R) : P.liftsFinal = false := by
  unfold Program.liftsFinal Program.headLifts
  rw [hR, pfS]
  kernel_rfl
theorem pfB : Try.pinned.checked.prog.liftsFinal = false := by
  obtain ⟨R, hR⟩ := pfM
  exact liftsFinal_of _ R hR
end Go.Proofs.Ytnjckeadcbfogaa
namespace Go.Proofs.Ytnjckeadcbfogaa
set_option linter.unusedSimpArgs false
theorem make_of (P : Program) (R : List (List Char)) (hR : behindMainWord (wordsSigns P.initOrder.toList) = [Char.ofNat 99, Char.ofNat 117, Char.ofNat 116] :: R) : P.make = some .cut := by
  unfold Program.make
  rw [hR]
  kernel_rfl
theorem pfC : Try.pinned.checked.prog.make = some .cut := by
  obtain ⟨R, hR⟩ := pfM
  exact make_of _ R hR
end Go.Proofs.Ytnjckeadcbfogaa
namespace Go.Proofs.Ytnjckeadcbfogaa.RM
/-- the four coefficients lie within the limit -/
def vr (a b c d : Int) : Bool := decide ((-1000000000 ≤ a ∧ a ≤ 1000000000) ∧ (-1000000000 ≤ b ∧ b ≤ 1000000000) ∧ (-1000000000 ≤ c ∧ c ≤ 1000000000) ∧ (-1000000000 ≤ d ∧ d ≤ 1000000000))
theorem vr_iff {a b c d : Int} : vr a b c d = true ↔ (-1000000000 ≤ a ∧ a ≤ 1000000000) ∧ (-1000000000 ≤ b ∧ b ≤ 1000000000) ∧ (-1000000000 ≤ c ∧ c ≤ 1000000000) ∧ (-1000000000 ≤ d ∧ d ≤ 1000000000) := by
  unfold vr; simp
theorem mul_bd {a b : Int} (ha : -1000000000 ≤ a ∧ a ≤ 1000000000) (hb : -1000000000 ≤ b ∧ b ≤ 1000000000) : -1000000000000000000 ≤ a * b ∧ a * b ≤ 1000000000000000000 := by
  have h1 : a.natAbs ≤ 1000000000 := by omega
  have h2 : b.natAbs ≤ 1000000000 := by omega
  have h3 := Nat.mul_le_mul h1 h2
  rw [← Int.natAbs_mul] at h3
  omega
end Go.Proofs.Ytnjckeadcbfogaa.RM
namespace Go.Proofs.Ytnjckeadcbfogaa.RM
/-- four numbers and an exponent -/
structure Dy where
  a : Int
  b : Int
  c : Int
  d : Int
  e : Nat
/-- divisible by the square root of 2 -/
def ev2 (a b c d : Int) : Bool := ((a + c).tmod 2 == 0) && ((b + d).tmod 2 == 0)
/-- the lowest form -/
def low : Nat → Int → Int → Int → Int → Dy
  | 0, a, b, c, d => ⟨a, b, c, d, 0⟩
  | e + 1, a, b, c, d => if ev2 a b c d then low e ((b - d).tdiv 2) ((a + c).tdiv 2) ((b + d).tdiv 2) ((c - a).tdiv 2) else ⟨a, b, c, d, e + 1⟩
theorem td2' (x : Int) : 2 * (x.tdiv 2).natAbs ≤ x.natAbs := by
  rw [Int.natAbs_tdiv]; show 2 * (x.natAbs / 2) ≤ _; omega
theorem vr_half {a b c d : Int} (h : vr a b c d = true) : vr ((b - d).tdiv 2) ((a + c).tdiv 2) ((b + d).tdiv 2) ((c - a).tdiv 2) = true := by
  rw [vr_iff] at *
  have h1 := td2' (b - d)
  have h2 := td2' (a + c)
  have h3 := td2' (b + d)
  have h4 := td2' (c - a)
  omega
theorem low_vr (e : Nat) : ∀ {a b c d : Int} {A B C D : Int} {E : Nat}, vr a b c d = true → low e a b c d = ⟨A, B, C, D, E⟩ → vr A B C D = true ∧ E ≤ e ∧ (E = 0 ∨ ev2 A B C D = false) := by
  induction e with
  | zero => intro a b c d A B C D E h hl; simp only [low, Dy.mk.injEq] at hl; obtain ⟨rfl, rfl, rfl, rfl, rfl⟩ := hl; exact ⟨h, Nat.le_refl _, Or.inl rfl⟩
  | succ e ih =>
    intro a b c d A B C D E h hl
    rw [low] at hl
    split at hl
    · obtain ⟨h1, h2, h3⟩ := ih (vr_half h) hl
      exact ⟨h1, by omega, h3⟩
    · rename_i hn
      simp only [Dy.mk.injEq] at hl
      obtain ⟨rfl, rfl, rfl, rfl, rfl⟩ := hl
      exact ⟨h, Nat.le_refl _, Or.inr (by simpa using hn)⟩
theorem low_fix {e : Nat} {a b c d : Int} (h : e = 0 ∨ ev2 a b c d = false) : low e a b c d = ⟨a, b, c, d, e⟩ := by
  cases e with
  | zero => rfl
  | succ e => rw [low, if_neg (by simpa using h)]
/-- a dyadic number that is valid -/
def vd (a b c d : Int) (e : Nat) : Bool := vr a b c d && decide (e ≤ 60) && (decide (e = 0) || !ev2 a b c d)
theorem vd_iff {a b c d : Int} {e : Nat} : vd a b c d e = true ↔ vr a b c d = true ∧ e ≤ 60 ∧ (e = 0 ∨ ev2 a b c d = false) := by
  unfold vd; simp [and_assoc]
theorem low_vd {e : Nat} {a b c d A B C D : Int} {E : Nat} (hx : vr a b c d = true) (he : e ≤ 60) (hl : low e a b c d = ⟨A, B, C, D, E⟩) : vd A B C D E = true := by
  obtain ⟨h1, h2, h3⟩ := low_vr e hx hl
  exact vd_iff.2 ⟨h1, by omega, h3⟩
theorem low_ne {e : Nat} {a b c d A B C D : Int} {E : Nat} (hx : vr a b c d = true) (h : ¬ (e = 0 ∨ ev2 a b c d = false)) (hl : low e a b c d = ⟨A, B, C, D, E⟩) : E ≠ e := by
  cases e with
  | zero => exact absurd (Or.inl rfl) h
  | succ e =>
    rw [low, if_pos (by simp at h; exact h)] at hl
    have := (low_vr e (vr_half hx) hl).2.1
    omega
/-- four numbers -/
structure R4 where
  a : Int
  b : Int
  c : Int
  d : Int
/-- raise n times by the square root of 2, as the program does: stops at the first that is not valid -/
def rais : Nat → Int → Int → Int → Int → Option R4
  | 0, a, b, c, d => some ⟨a, b, c, d⟩
  | n + 1, a, b, c, d => if vr (b - d) (a + c) (b + d) (c - a) then rais n (b - d) (a + c) (b + d) (c - a) else none
/-- the same as the model does: goes on with zero and remembers -/
def raisS : Nat → Int → Int → Int → Int → Bool → R4 × Bool
  | 0, a, b, c, d, z => (⟨a, b, c, d⟩, z)
  | n + 1, a, b, c, d, z => if vr (b - d) (a + c) (b + d) (c - a) then raisS n (b - d) (a + c) (b + d) (c - a) z else raisS n 0 0 0 0 true
theorem raisS_bad (n : Nat) : ∀ {a b c d : Int} {A B C D : Int} {z : Bool}, vr a b c d = true → raisS n a b c d true = (⟨A, B, C, D⟩, z) → z = true ∧ vr A B C D = true := by
  induction n with
  | zero => intro a b c d A B C D z h hr; simp only [raisS, Prod.mk.injEq, R4.mk.injEq] at hr; obtain ⟨⟨rfl, rfl, rfl, rfl⟩, rfl⟩ := hr; exact ⟨rfl, h⟩
  | succ n ih =>
    intro a b c d A B C D z h hr
    rw [raisS] at hr
    split at hr
    · rename_i hv; exact ih hv hr
    · exact ih (by decide) hr
theorem raisS_some (n : Nat) : ∀ {a b c d : Int} {A B C D : Int}, vr a b c d = true → rais n a b c d = some ⟨A, B, C, D⟩ → raisS n a b c d false = (⟨A, B, C, D⟩, false) ∧ vr A B C D = true := by
  induction n with
  | zero => intro a b c d A B C D h hr; simp only [rais, Option.some.injEq, R4.mk.injEq] at hr; obtain ⟨rfl, rfl, rfl, rfl⟩ := hr; exact ⟨rfl, h⟩
  | succ n ih =>
    intro a b c d A B C D h hr
    rw [rais] at hr
    split at hr
    · rename_i hv
      obtain ⟨h1, h2⟩ := ih hv hr
      exact ⟨by rw [raisS, if_pos hv]; exact h1, h2⟩
    · cases hr
theorem raisS_none (n : Nat) : ∀ {a b c d : Int}, vr a b c d = true → rais n a b c d = none → ∃ A B C D : Int, raisS n a b c d false = (⟨A, B, C, D⟩, true) ∧ vr A B C D = true := by
  induction n with
  | zero => intro a b c d h hr; cases hr
  | succ n ih =>
    intro a b c d h hr
    rw [rais] at hr
    split at hr
    · rename_i hv
      obtain ⟨A, B, C, D, h1, h2⟩ := ih hv hr
      exact ⟨A, B, C, D, by rw [raisS, if_pos hv]; exact h1, h2⟩
    · rename_i hv
      rcases hq : raisS n 0 0 0 0 true with ⟨⟨A, B, C, D⟩, z⟩
      obtain ⟨h1, h2⟩ := raisS_bad n (by decide) hq
      exact ⟨A, B, C, D, by rw [raisS, if_neg hv, hq, h1], h2⟩
end Go.Proofs.Ytnjckeadcbfogaa.RM
namespace Go.Proofs.Ytnjckeadcbfogaa
open Go.RowKit RM
set_option linter.unusedVariables false

/-- behind a call: the old cells and marks read as before, nothing has gone -/
theorem bcell {W w1 : World} (hb : Below W.heap.size W w1) : (∀ b o, b < W.heap.size → w1.cell? ⟨b, o, none⟩ = W.cell? ⟨b, o, none⟩) ∧ (∀ b o, b < W.heap.size → w1.frozen? ⟨b, o, none⟩ = W.frozen? ⟨b, o, none⟩) ∧ W.heap.size ≤ w1.heap.size :=
  ⟨fun b o h => hb.cell (p := ⟨b, o, none⟩) h, fun b o h => hb.frozen (p := ⟨b, o, none⟩) h, hb.size⟩
theorem chain {B C : Nat} {w a b : World} (h : Below B w a) (k : Below C a b) (hB : B ≤ C) : Below B w b := h.trans (k.mono hB)
/-- a fact kept from the walk -/
theorem hid {p : Prop} (h : p) : Hid p := h
/-- the value of a number of the ring -/
abbrev rg (a b c d : Int) : Value := .agg #[.int .i64 a, .int .i64 b, .int .i64 c, .int .i64 d]

/-- an array of four numbers, read at an index that is known -/
theorem ix (a b c d : Int) (w : World) : (Instr.index 206 (rg a b c d) (.int .i64 0)).run Try.prog w = .ok (.int .i64 a) w ∧ (Instr.index 206 (rg a b c d) (.int .i64 1)).run Try.prog w = .ok (.int .i64 b) w
    ∧ (Instr.index 206 (rg a b c d) (.int .i64 2)).run Try.prog w = .ok (.int .i64 c) w ∧ (Instr.index 206 (rg a b c d) (.int .i64 3)).run Try.prog w = .ok (.int .i64 d) w :=
  ⟨by kernel_rfl, by kernel_rfl, by kernel_rfl, by kernel_rfl⟩

set_option maxRecDepth 100000 in
set_option maxHeartbeats 1000000 in
theorem iv_t (a b c d : Int) (w : World) (h : vr a b c d = true) :
    Calls Try.prog 199 #[rg a b c d] w fun e w' => e = .returned (.bool true) ∧ Below w.heap.size w w' := by
  obtain ⟨⟨a1, a2⟩, ⟨b1, b2⟩, ⟨c1, c2⟩, ⟨d1, d2⟩⟩ := vr_iff.1 h
  clear h
  have i0 := fun w => (ix a b c d w).1
  have i1 := fun w => (ix a b c d w).2.1
  have i2 := fun w => (ix a b c d w).2.2.1
  have i3 := fun w => (ix a b c d w).2.2.2
  go_enter Try.func199, Try.ntmps199
  go_wp2
  go_rounds 5
  go_ret
  exact ⟨rfl, by go_grown⟩

set_option maxRecDepth 100000 in
set_option maxHeartbeats 1000000 in
theorem iv_f (a b c d : Int) (w : World) (h : vr a b c d = false) :
    Calls Try.prog 199 #[rg a b c d] w fun e w' => e = .returned (.bool false) ∧ Below w.heap.size w w' := by
  have hn : ¬ _ := fun k => by rw [vr_iff.2 k] at h; cases h
  clear h
  have HN := hid hn
  clear hn
  have i0 := fun w => (ix a b c d w).1
  have i1 := fun w => (ix a b c d w).2.1
  have i2 := fun w => (ix a b c d w).2.2.1
  have i3 := fun w => (ix a b c d w).2.2.2
  go_enter Try.func199, Try.ntmps199
  go_wp2
  go_rounds 5
  all_goals (go_ret; refine ⟨?_, by go_grown⟩)
  all_goals (first | rfl | (exact absurd ⟨⟨by omega, by omega⟩, ⟨by omega, by omega⟩, ⟨by omega, by omega⟩, ⟨by omega, by omega⟩⟩ HN.out))

set_option maxRecDepth 100000 in
set_option maxHeartbeats 1000000 in
theorem lg_t (a b c d : Int) (w : World) (h : vr a b c d = true) :
    Calls Try.prog 191 #[rg a b c d] w fun e w' => e = .returned (.bool true) ∧ Below w.heap.size w w' := by
  obtain ⟨⟨a1, a2⟩, ⟨b1, b2⟩, ⟨c1, c2⟩, ⟨d1, d2⟩⟩ := vr_iff.1 h
  clear h
  go_enter Try.func191, Try.ntmps191
  go_wp2
  go_rounds 5
  go_ret
  exact ⟨rfl, by go_grown⟩

set_option maxRecDepth 100000 in
set_option maxHeartbeats 1000000 in
theorem lg_f (a b c d : Int) (w : World) (h : vr a b c d = false) :
    Calls Try.prog 191 #[rg a b c d] w fun e w' => e = .returned (.bool false) ∧ Below w.heap.size w w' := by
  have hn : ¬ _ := fun k => by rw [vr_iff.2 k] at h; cases h
  clear h
  have HN := hid hn
  clear hn
  go_enter Try.func191, Try.ntmps191
  go_wp2
  go_rounds 5
  all_goals (go_ret; refine ⟨?_, by go_grown⟩)
  all_goals (first | rfl | (exfalso; refine HN.out ?_; simp only [Bool.not_eq_false', decide_eq_true_eq] at *; exact ⟨⟨by omega, by omega⟩, ⟨by omega, by omega⟩, ⟨by omega, by omega⟩, ⟨by omega, by omega⟩⟩))
end Go.Proofs.Ytnjckeadcbfogaa
namespace Go.Proofs.Ytnjckeadcbfogaa
open Go.RowKit RM
set_option linter.unusedVariables false
set_option linter.unusedSimpArgs false
/-- a number of the ring and whether there is one -/
abbrev rt (a b c d : Int) (ok : Bool) : Value := .tuple #[rg a b c d, .bool ok]

set_option maxRecDepth 100000 in
set_option maxHeartbeats 1000000 in
theorem conj_i_t (a b c d : Int) (w : World) (h : vr a b c d = true) :
    Calls Try.prog 195 #[rg a b c d] w fun e w' => e = .returned (rt a (-d) (-c) (-b) true) ∧ Below w.heap.size w w' := by
  obtain ⟨⟨a1, a2⟩, ⟨b1, b2⟩, ⟨c1, c2⟩, ⟨d1, d2⟩⟩ := vr_iff.1 h
  have H := hid h
  clear h
  go_enter Try.func195, Try.ntmps195
  go_wp2_with (first | (go_at_call 199; ((with_reducible refine (iv_t _ _ _ _ _ H.out).mono ?_); rintro e w1 ⟨rfl, hb1⟩; obtain ⟨hc1, hf1, _⟩ := bcell hb1; have hz1 := hb1.size; simp at hz1; have hy1 := Nat.lt_of_succ_le hz1; have hx1 : w.heap.size < w1.heap.size := by omega)) | go_in)
  refine bodyPost_ret (v := rt a (-d) (-c) (-b) true) (by simp [results, Try.results195, go_sem, *]) rfl ⟨rfl, ?_⟩
  repeat' (first | (with_reducible exact Below.refl _ _) | (with_reducible refine Below.alloc ?_ ?_ _) | (with_reducible refine Below.drew ?_) | (with_reducible refine Below.setCell ?_ ?_ _) | (with_reducible refine chain ?_ (by assumption) ?_) | omega | (simp; done) | (simp; omega))

end Go.Proofs.Ytnjckeadcbfogaa
