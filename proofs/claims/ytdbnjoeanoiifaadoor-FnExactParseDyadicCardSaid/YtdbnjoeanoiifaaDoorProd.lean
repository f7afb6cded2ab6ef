/- Contracts of ringOf, of its model, and of the product of two arrays of coefficients. -/
import Derived.Test.YtdbnjoeanoiifaaDoorOneArg
namespace Go.Proofs.YtdbnjoeanoiifaaDoor
open Go.RowKit RM
set_option linter.unusedVariables false
set_option linter.unusedSimpArgs false

set_option maxRecDepth 100000 in
set_option maxHeartbeats 1000000 in
theorem ro_t (a b c d : Int) (w : World) (h : vr a b c d = true) :
    Calls Tryd.prog 32 #[rg a b c d] w fun e w' => e = .returned (rt a b c d true) ∧ Below w.heap.size w w' := by
  have H := hid h
  clear h
  go_enter Tryd.func32, Tryd.ntmps32
  go_wp2_with (first | (go_at_call 26; ((with_reducible refine (iv_t _ _ _ _ _ H.out).mono ?_); rintro e w1 ⟨rfl, hb1⟩; obtain ⟨hc1, hf1, _⟩ := bcell hb1; have hz1 := hb1.size; try simp at hz1; try have hx10 : w.heap.size < w1.heap.size := by omega; try have hx11 : w.heap.size + 1 < w1.heap.size := by omega; try have hx12 : w.heap.size + 1 + 1 < w1.heap.size := by omega; try have hx13 : w.heap.size + 1 + 1 + 1 < w1.heap.size := by omega)) | go_in)
  refine bodyPost_ret (v := rt a b c d true) (by simp [results, Tryd.results32, go_sem, *]) rfl ⟨rfl, ?_⟩
  repeat' (first | (with_reducible exact Below.refl _ _) | (with_reducible refine Below.alloc ?_ ?_ _) | (with_reducible refine Below.drew ?_) | (with_reducible refine Below.setCell ?_ ?_ _) | (with_reducible refine chain ?_ (by assumption) ?_) | omega | (simp; done) | (simp; omega))

set_option maxRecDepth 100000 in
set_option maxHeartbeats 1000000 in
theorem ro_f (a b c d : Int) (w : World) (h : vr a b c d = false) :
    Calls Tryd.prog 32 #[rg a b c d] w fun e w' => e = .returned (rt 0 0 0 0 false) ∧ Below w.heap.size w w' := by
  have H := hid h
  clear h
  go_enter Tryd.func32, Tryd.ntmps32
  go_wp2_with (first | (go_at_call 26; ((with_reducible refine (iv_f _ _ _ _ _ H.out).mono ?_); rintro e w1 ⟨rfl, hb1⟩; obtain ⟨hc1, hf1, _⟩ := bcell hb1; have hz1 := hb1.size; try simp at hz1; try have hx10 : w.heap.size < w1.heap.size := by omega; try have hx11 : w.heap.size + 1 < w1.heap.size := by omega; try have hx12 : w.heap.size + 1 + 1 < w1.heap.size := by omega; try have hx13 : w.heap.size + 1 + 1 + 1 < w1.heap.size := by omega)) | go_in)
  refine bodyPost_ret (v := rt 0 0 0 0 false) (by simp [results, Tryd.results32, go_sem, *]) rfl ⟨rfl, ?_⟩
  repeat' (first | (with_reducible exact Below.refl _ _) | (with_reducible refine Below.alloc ?_ ?_ _) | (with_reducible refine Below.drew ?_) | (with_reducible refine Below.setCell ?_ ?_ _) | (with_reducible refine chain ?_ (by assumption) ?_) | omega | (simp; done) | (simp; omega))

set_option maxRecDepth 100000 in
set_option maxHeartbeats 1000000 in
theorem co (a b c d : Int) (w : World) :
    Calls Tryd.prog 27 #[rg a b c d] w fun e w' => e = .returned (rg a b c d) ∧ Below w.heap.size w w' := by
  go_enter Tryd.func27, Tryd.ntmps27
  go_wp2_with (first | go_in)
  refine bodyPost_ret (v := rg a b c d) (by simp [results, Tryd.results27, go_sem, *]) rfl ⟨rfl, ?_⟩
  repeat' (first | (with_reducible exact Below.refl _ _) | (with_reducible refine Below.alloc ?_ ?_ _) | (with_reducible refine Below.drew ?_) | (with_reducible refine Below.setCell ?_ ?_ _) | (with_reducible refine chain ?_ (by assumption) ?_) | omega | (simp; done) | (simp; omega))

/-- the coefficients of a product -/
abbrev m0 (a b c d p q r s : Int) : Int := a * p - b * s - c * r - d * q
abbrev m1 (a b c d p q r s : Int) : Int := a * q + b * p - c * s - d * r
abbrev m2 (a b c d p q r s : Int) : Int := a * r + b * q + c * p - d * s
abbrev m3 (a b c d p q r s : Int) : Int := a * s + b * r + c * q + d * p

end Go.Proofs.YtdbnjoeanoiifaaDoor
