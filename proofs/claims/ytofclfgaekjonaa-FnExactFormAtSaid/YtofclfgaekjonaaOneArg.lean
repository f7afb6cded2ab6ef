/- Contracts of the functions of one number: Conjugate, Bullet, MulRootTwo, and of their models. -/
import Derived.Test.YtofclfgaekjonaaValid
namespace Go.Proofs.Ytofclfgaekjonaa
open Go.RowKit RM
set_option linter.unusedVariables false
set_option linter.unusedSimpArgs false
/-- a number of the ring and whether there is one -/
abbrev rt (a b c d : Int) (ok : Bool) : Value := .tuple #[rg a b c d, .bool ok]

set_option maxRecDepth 100000 in
set_option maxHeartbeats 1000000 in
theorem conj_i_t (a b c d : Int) (w : World) (h : vr a b c d = true) :
    Calls Try.prog 185 #[rg a b c d] w fun e w' => e = .returned (rt a (-d) (-c) (-b) true) ∧ Below w.heap.size w w' := by
  obtain ⟨⟨a1, a2⟩, ⟨b1, b2⟩, ⟨c1, c2⟩, ⟨d1, d2⟩⟩ := vr_iff.1 h
  have H := hid h
  clear h
  go_enter Try.func185, Try.ntmps185
  go_wp2_with (first | (go_at_call 172; ((with_reducible refine (iv_t _ _ _ _ _ H.out).mono ?_); rintro e w1 ⟨rfl, hb1⟩; obtain ⟨hc1, hf1, _⟩ := bcell hb1; have hz1 := hb1.size; simp at hz1; have hy1 := Nat.lt_of_succ_le hz1; have hx1 : w.heap.size < w1.heap.size := by omega)) | go_in)
  refine bodyPost_ret (v := rt a (-d) (-c) (-b) true) (by simp [results, Try.results185, go_sem, *]) rfl ⟨rfl, ?_⟩
  repeat' (first | (with_reducible exact Below.refl _ _) | (with_reducible refine Below.alloc ?_ ?_ _) | (with_reducible refine Below.drew ?_) | (with_reducible refine Below.setCell ?_ ?_ _) | (with_reducible refine chain ?_ (by assumption) ?_) | omega | (simp; done) | (simp; omega))

set_option maxRecDepth 100000 in
set_option maxHeartbeats 1000000 in
theorem conj_i_f (a b c d : Int) (w : World) (h : vr a b c d = false) :
    Calls Try.prog 185 #[rg a b c d] w fun e w' => e = .returned (rt 0 0 0 0 false) ∧ Below w.heap.size w w' := by
  have H := hid h
  clear h
  go_enter Try.func185, Try.ntmps185
  go_wp2_with (first | (go_at_call 172; ((with_reducible refine (iv_f _ _ _ _ _ H.out).mono ?_); rintro e w1 ⟨rfl, hb1⟩; obtain ⟨hc1, hf1, _⟩ := bcell hb1; have hz1 := hb1.size; simp at hz1; have hy1 := Nat.lt_of_succ_le hz1; have hx1 : w.heap.size < w1.heap.size := by omega)) | go_in)
  refine bodyPost_ret (v := rt 0 0 0 0 false) (by simp [results, Try.results185, go_sem, *]) rfl ⟨rfl, ?_⟩
  repeat' (first | (with_reducible exact Below.refl _ _) | (with_reducible refine Below.alloc ?_ ?_ _) | (with_reducible refine Below.drew ?_) | (with_reducible refine Below.setCell ?_ ?_ _) | (with_reducible refine chain ?_ (by assumption) ?_) | omega | (simp; done) | (simp; omega))
end Go.Proofs.Ytofclfgaekjonaa
