/- Contracts of DivRootTwo. -/
import Derived.Test.YtofclfgaekjonaaDivEx
namespace Go.Proofs.Ytofclfgaekjonaa
open Go.RowKit RM
set_option linter.unusedVariables false
set_option linter.unusedSimpArgs false

set_option maxRecDepth 100000 in
set_option maxHeartbeats 2000000 in
theorem droot_i_t (a b c d : Int) (w : World) (hx : vr a b c d = true) (hr : ((b - d).tmod 2 == 0 && ((a + c).tmod 2 == 0 && ((b + d).tmod 2 == 0 && (c - a).tmod 2 == 0))) = true) (hv : vr ((b - d).tdiv 2) ((a + c).tdiv 2) ((b + d).tdiv 2) ((c - a).tdiv 2) = true) :
    Calls Try.prog 173 #[rg a b c d] w fun e w' => e = .returned (rt ((b - d).tdiv 2) ((a + c).tdiv 2) ((b + d).tdiv 2) ((c - a).tdiv 2) true) ∧ Below w.heap.size w w' := by
  obtain ⟨⟨a1, a2⟩, ⟨b1, b2⟩, ⟨c1, c2⟩, ⟨d1, d2⟩⟩ := vr_iff.1 hx
  have HX := hid hx
  clear hx
  have HR := hid hr
  clear hr
  have HV := hid hv
  clear hv
  go_enter Try.func173, Try.ntmps173
  go_wp2_with (first | (go_at_call 172; ((with_reducible refine (iv_t _ _ _ _ _ HX.out).mono ?_); rintro e w1 ⟨rfl, hb1⟩; obtain ⟨hc1, hf1, _⟩ := bcell hb1; have hz1 := hb1.size; (try simp at hz1); (try have hx10 : w.heap.size < w1.heap.size := (by omega)); (try have hx11 : w.heap.size + 1 < w1.heap.size := (by omega)); (try have hx12 : w.heap.size + 1 + 1 < w1.heap.size := (by omega)); (try have hx13 : w.heap.size + 1 + 1 + 1 < w1.heap.size := (by omega)))) | (go_at_call 199; ((with_reducible refine (de_t _ _ _ _ _ _ (by omega) (by omega) (by omega) (by omega) (by decide) (by omega) (by omega) HR.out HV.out).mono ?_); rintro e w2 ⟨rfl, hb2⟩; obtain ⟨hc2, hf2, _⟩ := bcell hb2; have hz2 := hb2.size; (try simp at hz2); (try have hx20 : w.heap.size < w2.heap.size := (by omega)); (try have hx21 : w.heap.size + 1 < w2.heap.size := (by omega)); (try have hx22 : w.heap.size + 1 + 1 < w2.heap.size := (by omega)); (try have hx23 : w.heap.size + 1 + 1 + 1 < w2.heap.size := (by omega)); have zc0 : w2.cell? ⟨w.heap.size + 1, 0, none⟩ = some (.int .i64 0) := (by rw [hc2 _ _ (by first | omega | (simp; done) | (simp; omega))]; go_simp); have zc1 : w2.cell? ⟨w.heap.size + 1, 1, none⟩ = some (.int .i64 0) := (by rw [hc2 _ _ (by first | omega | (simp; done) | (simp; omega))]; go_simp); have zc2 : w2.cell? ⟨w.heap.size + 1, 2, none⟩ = some (.int .i64 0) := (by rw [hc2 _ _ (by first | omega | (simp; done) | (simp; omega))]; go_simp); have zc3 : w2.cell? ⟨w.heap.size + 1, 3, none⟩ = some (.int .i64 0) := (by rw [hc2 _ _ (by first | omega | (simp; done) | (simp; omega))]; go_simp); have zf0 : w2.frozen? ⟨w.heap.size + 1, 0, none⟩ = false := (by rw [hf2 _ _ (by first | omega | (simp; done) | (simp; omega))]; go_simp); have zf1 : w2.frozen? ⟨w.heap.size + 1, 1, none⟩ = false := (by rw [hf2 _ _ (by first | omega | (simp; done) | (simp; omega))]; go_simp); have zf2 : w2.frozen? ⟨w.heap.size + 1, 2, none⟩ = false := (by rw [hf2 _ _ (by first | omega | (simp; done) | (simp; omega))]; go_simp); have zf3 : w2.frozen? ⟨w.heap.size + 1, 3, none⟩ = false := (by rw [hf2 _ _ (by first | omega | (simp; done) | (simp; omega))]; go_simp))) | go_in)
  refine bodyPost_ret (v := rt ((b - d).tdiv 2) ((a + c).tdiv 2) ((b + d).tdiv 2) ((c - a).tdiv 2) true) (by first | (simp [results, Try.results173, go_sem, *]; done) | (simp (disch := (first | omega | (simp; done) | (simp; omega))) [results, Try.results173, go_sem, *]; done) | (simp only [results, Try.results173]; go_simp; done)) rfl ⟨rfl, ?_⟩
  repeat' (first | (with_reducible exact Below.refl _ _) | (with_reducible refine Below.alloc ?_ ?_ _) | (with_reducible refine Below.drew ?_) | (with_reducible refine Below.setCell ?_ ?_ _) | (with_reducible refine chain ?_ (by assumption) ?_) | omega | (simp; done) | (simp; omega))

set_option maxRecDepth 100000 in
set_option maxHeartbeats 2000000 in
theorem droot_i_e (a b c d : Int) (w : World) (hx : vr a b c d = true) (hr : ((b - d).tmod 2 == 0 && ((a + c).tmod 2 == 0 && ((b + d).tmod 2 == 0 && (c - a).tmod 2 == 0))) = false) :
    Calls Try.prog 173 #[rg a b c d] w fun e w' => e = .returned (rt 0 0 0 0 false) ∧ Below w.heap.size w w' := by
  obtain ⟨⟨a1, a2⟩, ⟨b1, b2⟩, ⟨c1, c2⟩, ⟨d1, d2⟩⟩ := vr_iff.1 hx
  have HX := hid hx
  clear hx
  have HR := hid hr
  clear hr
  go_enter Try.func173, Try.ntmps173
  go_wp2_with (first | (go_at_call 172; ((with_reducible refine (iv_t _ _ _ _ _ HX.out).mono ?_); rintro e w1 ⟨rfl, hb1⟩; obtain ⟨hc1, hf1, _⟩ := bcell hb1; have hz1 := hb1.size; (try simp at hz1); (try have hx10 : w.heap.size < w1.heap.size := (by omega)); (try have hx11 : w.heap.size + 1 < w1.heap.size := (by omega)); (try have hx12 : w.heap.size + 1 + 1 < w1.heap.size := (by omega)); (try have hx13 : w.heap.size + 1 + 1 + 1 < w1.heap.size := (by omega)))) | (go_at_call 199; ((with_reducible refine (de_r _ _ _ _ _ _ (by omega) (by omega) (by omega) (by omega) (by decide) (by omega) (by omega) HR.out).mono ?_); rintro e w2 ⟨rfl, hb2⟩; obtain ⟨hc2, hf2, _⟩ := bcell hb2; have hz2 := hb2.size; (try simp at hz2); (try have hx20 : w.heap.size < w2.heap.size := (by omega)); (try have hx21 : w.heap.size + 1 < w2.heap.size := (by omega)); (try have hx22 : w.heap.size + 1 + 1 < w2.heap.size := (by omega)); (try have hx23 : w.heap.size + 1 + 1 + 1 < w2.heap.size := (by omega)); have zc0 : w2.cell? ⟨w.heap.size + 1, 0, none⟩ = some (.int .i64 0) := (by rw [hc2 _ _ (by first | omega | (simp; done) | (simp; omega))]; go_simp); have zc1 : w2.cell? ⟨w.heap.size + 1, 1, none⟩ = some (.int .i64 0) := (by rw [hc2 _ _ (by first | omega | (simp; done) | (simp; omega))]; go_simp); have zc2 : w2.cell? ⟨w.heap.size + 1, 2, none⟩ = some (.int .i64 0) := (by rw [hc2 _ _ (by first | omega | (simp; done) | (simp; omega))]; go_simp); have zc3 : w2.cell? ⟨w.heap.size + 1, 3, none⟩ = some (.int .i64 0) := (by rw [hc2 _ _ (by first | omega | (simp; done) | (simp; omega))]; go_simp); have zf0 : w2.frozen? ⟨w.heap.size + 1, 0, none⟩ = false := (by rw [hf2 _ _ (by first | omega | (simp; done) | (simp; omega))]; go_simp); have zf1 : w2.frozen? ⟨w.heap.size + 1, 1, none⟩ = false := (by rw [hf2 _ _ (by first | omega | (simp; done) | (simp; omega))]; go_simp); have zf2 : w2.frozen? ⟨w.heap.size + 1, 2, none⟩ = false := (by rw [hf2 _ _ (by first | omega | (simp; done) | (simp; omega))]; go_simp); have zf3 : w2.frozen? ⟨w.heap.size + 1, 3, none⟩ = false := (by rw [hf2 _ _ (by first | omega | (simp; done) | (simp; omega))]; go_simp))) | go_in)
  refine bodyPost_ret (v := rt 0 0 0 0 false) (by first | (simp [results, Try.results173, go_sem, *]; done) | (simp (disch := (first | omega | (simp; done) | (simp; omega))) [results, Try.results173, go_sem, *]; done) | (simp only [results, Try.results173]; go_simp; done)) rfl ⟨rfl, ?_⟩
  repeat' (first | (with_reducible exact Below.refl _ _) | (with_reducible refine Below.alloc ?_ ?_ _) | (with_reducible refine Below.drew ?_) | (with_reducible refine Below.setCell ?_ ?_ _) | (with_reducible refine chain ?_ (by assumption) ?_) | omega | (simp; done) | (simp; omega))

set_option maxRecDepth 100000 in
set_option maxHeartbeats 2000000 in
theorem droot_i_f (a b c d : Int) (w : World) (hx : vr a b c d = false) :
    Calls Try.prog 173 #[rg a b c d] w fun e w' => e = .returned (rt 0 0 0 0 false) ∧ Below w.heap.size w w' := by
  have HX := hid hx
  clear hx
  go_enter Try.func173, Try.ntmps173
  go_wp2_with (first | (go_at_call 172; ((with_reducible refine (iv_f _ _ _ _ _ HX.out).mono ?_); rintro e w1 ⟨rfl, hb1⟩; obtain ⟨hc1, hf1, _⟩ := bcell hb1; have hz1 := hb1.size; (try simp at hz1); (try have hx10 : w.heap.size < w1.heap.size := (by omega)); (try have hx11 : w.heap.size + 1 < w1.heap.size := (by omega)); (try have hx12 : w.heap.size + 1 + 1 < w1.heap.size := (by omega)); (try have hx13 : w.heap.size + 1 + 1 + 1 < w1.heap.size := (by omega)))) | go_in)
  refine bodyPost_ret (v := rt 0 0 0 0 false) (by first | (simp [results, Try.results173, go_sem, *]; done) | (simp (disch := (first | omega | (simp; done) | (simp; omega))) [results, Try.results173, go_sem, *]; done) | (simp only [results, Try.results173]; go_simp; done)) rfl ⟨rfl, ?_⟩
  repeat' (first | (with_reducible exact Below.refl _ _) | (with_reducible refine Below.alloc ?_ ?_ _) | (with_reducible refine Below.drew ?_) | (with_reducible refine Below.setCell ?_ ?_ _) | (with_reducible refine chain ?_ (by assumption) ?_) | omega | (simp; done) | (simp; omega))
end Go.Proofs.Ytofclfgaekjonaa
