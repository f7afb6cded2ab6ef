/- Contracts of the model of DivRootTwo. -/
import Derived.Test.YtdcmicianbihjaaDivEx
namespace Go.Proofs.Ytdcmicianbihjaa
open Go.RowKit RM
set_option linter.unusedVariables false
set_option linter.unusedSimpArgs false

set_option maxRecDepth 100000 in
set_option maxHeartbeats 1000000 in
theorem ev_t (a b c d : Int) (w : World) (k1 : ((a + c).tmod 2 == 0) = true) (k2 : ((b + d).tmod 2 == 0) = true) (hx : vr a b c d = true) :
    Calls Try.prog 67 #[rg a b c d] w fun e w' => e = .returned (.bool true) ∧ Below w.heap.size w w' := by
  obtain ⟨⟨a1, a2⟩, ⟨b1, b2⟩, ⟨c1, c2⟩, ⟨d1, d2⟩⟩ := vr_iff.1 hx
  have HX := hid hx
  clear hx
  go_enter Try.func67, Try.ntmps67
  go_wp2_with (first | go_in)
  go_ret
  refine ⟨rfl, ?_⟩
  repeat' (first | (with_reducible exact Below.refl _ _) | (with_reducible refine Below.alloc ?_ ?_ _) | (with_reducible refine Below.drew ?_) | (with_reducible refine Below.setCell ?_ ?_ _) | (with_reducible refine chain ?_ (by assumption) ?_) | omega | (simp; done) | (simp; omega))

set_option maxRecDepth 100000 in
set_option maxHeartbeats 1000000 in
theorem ev_1 (a b c d : Int) (w : World) (k1 : ((a + c).tmod 2 == 0) = false) (hx : vr a b c d = true) :
    Calls Try.prog 67 #[rg a b c d] w fun e w' => e = .returned (.bool false) ∧ Below w.heap.size w w' := by
  obtain ⟨⟨a1, a2⟩, ⟨b1, b2⟩, ⟨c1, c2⟩, ⟨d1, d2⟩⟩ := vr_iff.1 hx
  have HX := hid hx
  clear hx
  go_enter Try.func67, Try.ntmps67
  go_wp2_with (first | go_in)
  go_ret
  refine ⟨rfl, ?_⟩
  repeat' (first | (with_reducible exact Below.refl _ _) | (with_reducible refine Below.alloc ?_ ?_ _) | (with_reducible refine Below.drew ?_) | (with_reducible refine Below.setCell ?_ ?_ _) | (with_reducible refine chain ?_ (by assumption) ?_) | omega | (simp; done) | (simp; omega))

set_option maxRecDepth 100000 in
set_option maxHeartbeats 1000000 in
theorem ev_2 (a b c d : Int) (w : World) (k1 : ((a + c).tmod 2 == 0) = true) (k2 : ((b + d).tmod 2 == 0) = false) (hx : vr a b c d = true) :
    Calls Try.prog 67 #[rg a b c d] w fun e w' => e = .returned (.bool false) ∧ Below w.heap.size w w' := by
  obtain ⟨⟨a1, a2⟩, ⟨b1, b2⟩, ⟨c1, c2⟩, ⟨d1, d2⟩⟩ := vr_iff.1 hx
  have HX := hid hx
  clear hx
  go_enter Try.func67, Try.ntmps67
  go_wp2_with (first | go_in)
  go_ret
  refine ⟨rfl, ?_⟩
  repeat' (first | (with_reducible exact Below.refl _ _) | (with_reducible refine Below.alloc ?_ ?_ _) | (with_reducible refine Below.drew ?_) | (with_reducible refine Below.setCell ?_ ?_ _) | (with_reducible refine chain ?_ (by assumption) ?_) | omega | (simp; done) | (simp; omega))

set_option maxRecDepth 100000 in
set_option maxHeartbeats 2000000 in
theorem hf (a b c d : Int) (w : World) (hx : vr a b c d = true) :
    Calls Try.prog 68 #[rg a b c d] w fun e w' => e = .returned (rg ((b - d).tdiv 2) ((a + c).tdiv 2) ((b + d).tdiv 2) ((c - a).tdiv 2)) ∧ Below w.heap.size w w' := by
  obtain ⟨⟨a1, a2⟩, ⟨b1, b2⟩, ⟨c1, c2⟩, ⟨d1, d2⟩⟩ := vr_iff.1 hx
  obtain ⟨x1, x2⟩ := tdiv_bd2 (a := b - d) (n := 2) (by omega)
  obtain ⟨y1, y2⟩ := tdiv_bd2 (a := a + c) (n := 2) (by omega)
  obtain ⟨z1, z2⟩ := tdiv_bd2 (a := b + d) (n := 2) (by omega)
  obtain ⟨t1, t2⟩ := tdiv_bd2 (a := c - a) (n := 2) (by omega)
  have HX := hid hx
  clear hx
  go_enter Try.func68, Try.ntmps68
  go_wp2_with (first | go_in)
  refine bodyPost_ret (v := rg ((b - d).tdiv 2) ((a + c).tdiv 2) ((b + d).tdiv 2) ((c - a).tdiv 2)) (by first | (simp [results, Try.results68, go_sem, *]; done) | (simp (disch := (first | omega | (simp; done) | (simp; omega))) [results, Try.results68, go_sem, *]; done) | (simp only [results, Try.results68]; go_simp; done)) rfl ⟨rfl, ?_⟩
  repeat' (first | (with_reducible exact Below.refl _ _) | (with_reducible refine Below.alloc ?_ ?_ _) | (with_reducible refine Below.drew ?_) | (with_reducible refine Below.setCell ?_ ?_ _) | (with_reducible refine chain ?_ (by assumption) ?_) | omega | (simp; done) | (simp; omega))

set_option maxRecDepth 100000 in
set_option maxHeartbeats 2000000 in
theorem droot_s_t (a b c d : Int) (w : World) (hx : vr a b c d = true) (k1 : ((a + c).tmod 2 == 0) = true) (k2 : ((b + d).tmod 2 == 0) = true) :
    Calls Try.prog 45 #[rg a b c d] w fun e w' => e = .returned (rt ((b - d).tdiv 2) ((a + c).tdiv 2) ((b + d).tdiv 2) ((c - a).tdiv 2) true) ∧ Below w.heap.size w w' := by
  have HX := hid hx
  clear hx
  have K1 := hid k1
  clear k1
  have K2 := hid k2
  clear k2
  go_enter Try.func45, Try.ntmps45
  go_wp2_with (first | (go_at_call 53; ((with_reducible refine (lg_t _ _ _ _ _ HX.out).mono ?_); rintro e w1 ⟨rfl, hb1⟩; obtain ⟨hc1, hf1, _⟩ := bcell hb1; have hz1 := hb1.size; (try simp at hz1); (try have hx10 : w.heap.size < w1.heap.size := (by omega)); (try have hx11 : w.heap.size + 1 < w1.heap.size := (by omega)); (try have hx12 : w.heap.size + 1 + 1 < w1.heap.size := (by omega)); (try have hx13 : w.heap.size + 1 + 1 + 1 < w1.heap.size := (by omega)))) | (go_at_call 67; ((with_reducible refine (ev_t _ _ _ _ _ K1.out K2.out HX.out).mono ?_); rintro e w2 ⟨rfl, hb2⟩; obtain ⟨hc2, hf2, _⟩ := bcell hb2; have hz2 := hb2.size; (try simp at hz2); (try have hx20 : w.heap.size < w2.heap.size := (by omega)); (try have hx21 : w.heap.size + 1 < w2.heap.size := (by omega)); (try have hx22 : w.heap.size + 1 + 1 < w2.heap.size := (by omega)); (try have hx23 : w.heap.size + 1 + 1 + 1 < w2.heap.size := (by omega)))) | (go_at_call 68; ((with_reducible refine (hf _ _ _ _ _ HX.out).mono ?_); rintro e w3 ⟨rfl, hb3⟩; obtain ⟨hc3, hf3, _⟩ := bcell hb3; have hz3 := hb3.size; (try simp at hz3); (try have hx30 : w.heap.size < w3.heap.size := (by omega)); (try have hx31 : w.heap.size + 1 < w3.heap.size := (by omega)); (try have hx32 : w.heap.size + 1 + 1 < w3.heap.size := (by omega)); (try have hx33 : w.heap.size + 1 + 1 + 1 < w3.heap.size := (by omega)))) | go_in)
  refine bodyPost_ret (v := rt ((b - d).tdiv 2) ((a + c).tdiv 2) ((b + d).tdiv 2) ((c - a).tdiv 2) true) (by first | (simp [results, Try.results45, go_sem, *]; done) | (simp (disch := (first | omega | (simp; done) | (simp; omega))) [results, Try.results45, go_sem, *]; done) | (simp only [results, Try.results45]; go_simp; done)) rfl ⟨rfl, ?_⟩
  repeat' (first | (with_reducible exact Below.refl _ _) | (with_reducible refine Below.alloc ?_ ?_ _) | (with_reducible refine Below.drew ?_) | (with_reducible refine Below.setCell ?_ ?_ _) | (with_reducible refine chain ?_ (by assumption) ?_) | omega | (simp; done) | (simp; omega))

set_option maxRecDepth 100000 in
set_option maxHeartbeats 2000000 in
theorem droot_s_e1 (a b c d : Int) (w : World) (hx : vr a b c d = true) (k1 : ((a + c).tmod 2 == 0) = false) :
    Calls Try.prog 45 #[rg a b c d] w fun e w' => e = .returned (rt 0 0 0 0 false) ∧ Below w.heap.size w w' := by
  have HX := hid hx
  clear hx
  have K1 := hid k1
  clear k1
  go_enter Try.func45, Try.ntmps45
  go_wp2_with (first | (go_at_call 53; ((with_reducible refine (lg_t _ _ _ _ _ HX.out).mono ?_); rintro e w1 ⟨rfl, hb1⟩; obtain ⟨hc1, hf1, _⟩ := bcell hb1; have hz1 := hb1.size; (try simp at hz1); (try have hx10 : w.heap.size < w1.heap.size := (by omega)); (try have hx11 : w.heap.size + 1 < w1.heap.size := (by omega)); (try have hx12 : w.heap.size + 1 + 1 < w1.heap.size := (by omega)); (try have hx13 : w.heap.size + 1 + 1 + 1 < w1.heap.size := (by omega)))) | (go_at_call 67; ((with_reducible refine (ev_1 _ _ _ _ _ K1.out HX.out).mono ?_); rintro e w2 ⟨rfl, hb2⟩; obtain ⟨hc2, hf2, _⟩ := bcell hb2; have hz2 := hb2.size; (try simp at hz2); (try have hx20 : w.heap.size < w2.heap.size := (by omega)); (try have hx21 : w.heap.size + 1 < w2.heap.size := (by omega)); (try have hx22 : w.heap.size + 1 + 1 < w2.heap.size := (by omega)); (try have hx23 : w.heap.size + 1 + 1 + 1 < w2.heap.size := (by omega)))) | go_in)
  refine bodyPost_ret (v := rt 0 0 0 0 false) (by first | (simp [results, Try.results45, go_sem, *]; done) | (simp (disch := (first | omega | (simp; done) | (simp; omega))) [results, Try.results45, go_sem, *]; done) | (simp only [results, Try.results45]; go_simp; done)) rfl ⟨rfl, ?_⟩
  repeat' (first | (with_reducible exact Below.refl _ _) | (with_reducible refine Below.alloc ?_ ?_ _) | (with_reducible refine Below.drew ?_) | (with_reducible refine Below.setCell ?_ ?_ _) | (with_reducible refine chain ?_ (by assumption) ?_) | omega | (simp; done) | (simp; omega))

set_option maxRecDepth 100000 in
set_option maxHeartbeats 2000000 in
theorem droot_s_e2 (a b c d : Int) (w : World) (hx : vr a b c d = true) (k1 : ((a + c).tmod 2 == 0) = true) (k2 : ((b + d).tmod 2 == 0) = false) :
    Calls Try.prog 45 #[rg a b c d] w fun e w' => e = .returned (rt 0 0 0 0 false) ∧ Below w.heap.size w w' := by
  have HX := hid hx
  clear hx
  have K1 := hid k1
  clear k1
  have K2 := hid k2
  clear k2
  go_enter Try.func45, Try.ntmps45
  go_wp2_with (first | (go_at_call 53; ((with_reducible refine (lg_t _ _ _ _ _ HX.out).mono ?_); rintro e w1 ⟨rfl, hb1⟩; obtain ⟨hc1, hf1, _⟩ := bcell hb1; have hz1 := hb1.size; (try simp at hz1); (try have hx10 : w.heap.size < w1.heap.size := (by omega)); (try have hx11 : w.heap.size + 1 < w1.heap.size := (by omega)); (try have hx12 : w.heap.size + 1 + 1 < w1.heap.size := (by omega)); (try have hx13 : w.heap.size + 1 + 1 + 1 < w1.heap.size := (by omega)))) | (go_at_call 67; ((with_reducible refine (ev_2 _ _ _ _ _ K1.out K2.out HX.out).mono ?_); rintro e w2 ⟨rfl, hb2⟩; obtain ⟨hc2, hf2, _⟩ := bcell hb2; have hz2 := hb2.size; (try simp at hz2); (try have hx20 : w.heap.size < w2.heap.size := (by omega)); (try have hx21 : w.heap.size + 1 < w2.heap.size := (by omega)); (try have hx22 : w.heap.size + 1 + 1 < w2.heap.size := (by omega)); (try have hx23 : w.heap.size + 1 + 1 + 1 < w2.heap.size := (by omega)))) | go_in)
  refine bodyPost_ret (v := rt 0 0 0 0 false) (by first | (simp [results, Try.results45, go_sem, *]; done) | (simp (disch := (first | omega | (simp; done) | (simp; omega))) [results, Try.results45, go_sem, *]; done) | (simp only [results, Try.results45]; go_simp; done)) rfl ⟨rfl, ?_⟩
  repeat' (first | (with_reducible exact Below.refl _ _) | (with_reducible refine Below.alloc ?_ ?_ _) | (with_reducible refine Below.drew ?_) | (with_reducible refine Below.setCell ?_ ?_ _) | (with_reducible refine chain ?_ (by assumption) ?_) | omega | (simp; done) | (simp; omega))

set_option maxRecDepth 100000 in
set_option maxHeartbeats 2000000 in
theorem droot_s_f (a b c d : Int) (w : World) (hx : vr a b c d = false) :
    Calls Try.prog 45 #[rg a b c d] w fun e w' => e = .returned (rt 0 0 0 0 false) ∧ Below w.heap.size w w' := by
  have HX := hid hx
  clear hx
  go_enter Try.func45, Try.ntmps45
  go_wp2_with (first | (go_at_call 53; ((with_reducible refine (lg_f _ _ _ _ _ HX.out).mono ?_); rintro e w1 ⟨rfl, hb1⟩; obtain ⟨hc1, hf1, _⟩ := bcell hb1; have hz1 := hb1.size; (try simp at hz1); (try have hx10 : w.heap.size < w1.heap.size := (by omega)); (try have hx11 : w.heap.size + 1 < w1.heap.size := (by omega)); (try have hx12 : w.heap.size + 1 + 1 < w1.heap.size := (by omega)); (try have hx13 : w.heap.size + 1 + 1 + 1 < w1.heap.size := (by omega)))) | go_in)
  refine bodyPost_ret (v := rt 0 0 0 0 false) (by first | (simp [results, Try.results45, go_sem, *]; done) | (simp (disch := (first | omega | (simp; done) | (simp; omega))) [results, Try.results45, go_sem, *]; done) | (simp only [results, Try.results45]; go_simp; done)) rfl ⟨rfl, ?_⟩
  repeat' (first | (with_reducible exact Below.refl _ _) | (with_reducible refine Below.alloc ?_ ?_ _) | (with_reducible refine Below.drew ?_) | (with_reducible refine Below.setCell ?_ ?_ _) | (with_reducible refine chain ?_ (by assumption) ?_) | omega | (simp; done) | (simp; omega))
end Go.Proofs.Ytdcmicianbihjaa
