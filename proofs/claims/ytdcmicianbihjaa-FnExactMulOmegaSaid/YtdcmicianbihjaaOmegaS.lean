/- Contracts of the model of MulOmega. -/
import Derived.Test.YtdcmicianbihjaaTurnS
namespace Go.Proofs.Ytdcmicianbihjaa
open Go.RowKit RM
set_option linter.unusedVariables false
set_option linter.unusedSimpArgs false

set_option maxRecDepth 100000 in
set_option maxHeartbeats 2000000 in
theorem omega_s_0 (a b c d k : Int) (w : World) (g1 : -1000 ≤ k) (g2 : k ≤ 1000) (hx : vr a b c d = true) (t1 : -7 ≤ k.tmod 8) (t2 : k.tmod 8 ≤ 7) (t3 : (k.tmod 8 + 8) % 8 = 0) (t4 : (k.tmod 8 + 8).tmod 8 = 0) :
    Calls Try.prog 42 #[rg a b c d, .int .i64 k] w fun e w' => e = .returned (rt a b c d true) ∧ Below w.heap.size w w' := by
  have HX := hid hx
  clear hx
  have T1 := hid t1
  clear t1
  have T2 := hid t2
  clear t2
  have T3 := hid t3
  clear t3
  have T4 := hid t4
  clear t4
  go_enter Try.func42, Try.ntmps42
  go_wp2_with (first | (go_at_call 53; ((with_reducible refine (lg_t _ _ _ _ _ HX.out).mono ?_); rintro e w1 ⟨rfl, hb1⟩; obtain ⟨hc1, hf1, _⟩ := bcell hb1; have hz1 := hb1.size; (try simp at hz1); (try have hx10 : w.heap.size < w1.heap.size := (by omega)); (try have hx11 : w.heap.size + 1 < w1.heap.size := (by omega)); (try have hx12 : w.heap.size + 1 + 1 < w1.heap.size := (by omega)); (try have hx13 : w.heap.size + 1 + 1 + 1 < w1.heap.size := (by omega)))) | (go_at_call 65; ((with_reducible refine (tn_0 _ _ _ _ _ _ T1.out T2.out T3.out T4.out HX.out).mono ?_); rintro e w2 ⟨rfl, hb2⟩; obtain ⟨hc2, hf2, _⟩ := bcell hb2; have hz2 := hb2.size; (try simp at hz2); (try have hx20 : w.heap.size < w2.heap.size := (by omega)); (try have hx21 : w.heap.size + 1 < w2.heap.size := (by omega)); (try have hx22 : w.heap.size + 1 + 1 < w2.heap.size := (by omega)); (try have hx23 : w.heap.size + 1 + 1 + 1 < w2.heap.size := (by omega)))) | go_in)
  refine bodyPost_ret (v := rt a b c d true) (by first | (simp [results, Try.results42, go_sem, *]; done) | (simp (disch := (first | omega | (simp; done) | (simp; omega))) [results, Try.results42, go_sem, *]; done) | (simp only [results, Try.results42]; go_simp; done)) rfl ⟨rfl, ?_⟩
  repeat' (first | (with_reducible exact Below.refl _ _) | (with_reducible refine Below.alloc ?_ ?_ _) | (with_reducible refine Below.drew ?_) | (with_reducible refine Below.setCell ?_ ?_ _) | (with_reducible refine chain ?_ (by assumption) ?_) | omega | (simp; done) | (simp; omega))

set_option maxRecDepth 100000 in
set_option maxHeartbeats 2000000 in
theorem omega_s_1 (a b c d k : Int) (w : World) (g1 : -1000 ≤ k) (g2 : k ≤ 1000) (hx : vr a b c d = true) (t1 : -7 ≤ k.tmod 8) (t2 : k.tmod 8 ≤ 7) (t3 : (k.tmod 8 + 8) % 8 = 1) (t4 : (k.tmod 8 + 8).tmod 8 = 1) :
    Calls Try.prog 42 #[rg a b c d, .int .i64 k] w fun e w' => e = .returned (rt (-d) a b c true) ∧ Below w.heap.size w w' := by
  have HX := hid hx
  clear hx
  have T1 := hid t1
  clear t1
  have T2 := hid t2
  clear t2
  have T3 := hid t3
  clear t3
  have T4 := hid t4
  clear t4
  go_enter Try.func42, Try.ntmps42
  go_wp2_with (first | (go_at_call 53; ((with_reducible refine (lg_t _ _ _ _ _ HX.out).mono ?_); rintro e w1 ⟨rfl, hb1⟩; obtain ⟨hc1, hf1, _⟩ := bcell hb1; have hz1 := hb1.size; (try simp at hz1); (try have hx10 : w.heap.size < w1.heap.size := (by omega)); (try have hx11 : w.heap.size + 1 < w1.heap.size := (by omega)); (try have hx12 : w.heap.size + 1 + 1 < w1.heap.size := (by omega)); (try have hx13 : w.heap.size + 1 + 1 + 1 < w1.heap.size := (by omega)))) | (go_at_call 65; ((with_reducible refine (tn_1 _ _ _ _ _ _ T1.out T2.out T3.out T4.out HX.out).mono ?_); rintro e w2 ⟨rfl, hb2⟩; obtain ⟨hc2, hf2, _⟩ := bcell hb2; have hz2 := hb2.size; (try simp at hz2); (try have hx20 : w.heap.size < w2.heap.size := (by omega)); (try have hx21 : w.heap.size + 1 < w2.heap.size := (by omega)); (try have hx22 : w.heap.size + 1 + 1 < w2.heap.size := (by omega)); (try have hx23 : w.heap.size + 1 + 1 + 1 < w2.heap.size := (by omega)))) | go_in)
  refine bodyPost_ret (v := rt (-d) a b c true) (by first | (simp [results, Try.results42, go_sem, *]; done) | (simp (disch := (first | omega | (simp; done) | (simp; omega))) [results, Try.results42, go_sem, *]; done) | (simp only [results, Try.results42]; go_simp; done)) rfl ⟨rfl, ?_⟩
  repeat' (first | (with_reducible exact Below.refl _ _) | (with_reducible refine Below.alloc ?_ ?_ _) | (with_reducible refine Below.drew ?_) | (with_reducible refine Below.setCell ?_ ?_ _) | (with_reducible refine chain ?_ (by assumption) ?_) | omega | (simp; done) | (simp; omega))

set_option maxRecDepth 100000 in
set_option maxHeartbeats 2000000 in
theorem omega_s_2 (a b c d k : Int) (w : World) (g1 : -1000 ≤ k) (g2 : k ≤ 1000) (hx : vr a b c d = true) (t1 : -7 ≤ k.tmod 8) (t2 : k.tmod 8 ≤ 7) (t3 : (k.tmod 8 + 8) % 8 = 2) (t4 : (k.tmod 8 + 8).tmod 8 = 2) :
    Calls Try.prog 42 #[rg a b c d, .int .i64 k] w fun e w' => e = .returned (rt (-c) (-d) a b true) ∧ Below w.heap.size w w' := by
  have HX := hid hx
  clear hx
  have T1 := hid t1
  clear t1
  have T2 := hid t2
  clear t2
  have T3 := hid t3
  clear t3
  have T4 := hid t4
  clear t4
  go_enter Try.func42, Try.ntmps42
  go_wp2_with (first | (go_at_call 53; ((with_reducible refine (lg_t _ _ _ _ _ HX.out).mono ?_); rintro e w1 ⟨rfl, hb1⟩; obtain ⟨hc1, hf1, _⟩ := bcell hb1; have hz1 := hb1.size; (try simp at hz1); (try have hx10 : w.heap.size < w1.heap.size := (by omega)); (try have hx11 : w.heap.size + 1 < w1.heap.size := (by omega)); (try have hx12 : w.heap.size + 1 + 1 < w1.heap.size := (by omega)); (try have hx13 : w.heap.size + 1 + 1 + 1 < w1.heap.size := (by omega)))) | (go_at_call 65; ((with_reducible refine (tn_2 _ _ _ _ _ _ T1.out T2.out T3.out T4.out HX.out).mono ?_); rintro e w2 ⟨rfl, hb2⟩; obtain ⟨hc2, hf2, _⟩ := bcell hb2; have hz2 := hb2.size; (try simp at hz2); (try have hx20 : w.heap.size < w2.heap.size := (by omega)); (try have hx21 : w.heap.size + 1 < w2.heap.size := (by omega)); (try have hx22 : w.heap.size + 1 + 1 < w2.heap.size := (by omega)); (try have hx23 : w.heap.size + 1 + 1 + 1 < w2.heap.size := (by omega)))) | go_in)
  refine bodyPost_ret (v := rt (-c) (-d) a b true) (by first | (simp [results, Try.results42, go_sem, *]; done) | (simp (disch := (first | omega | (simp; done) | (simp; omega))) [results, Try.results42, go_sem, *]; done) | (simp only [results, Try.results42]; go_simp; done)) rfl ⟨rfl, ?_⟩
  repeat' (first | (with_reducible exact Below.refl _ _) | (with_reducible refine Below.alloc ?_ ?_ _) | (with_reducible refine Below.drew ?_) | (with_reducible refine Below.setCell ?_ ?_ _) | (with_reducible refine chain ?_ (by assumption) ?_) | omega | (simp; done) | (simp; omega))

set_option maxRecDepth 100000 in
set_option maxHeartbeats 2000000 in
theorem omega_s_3 (a b c d k : Int) (w : World) (g1 : -1000 ≤ k) (g2 : k ≤ 1000) (hx : vr a b c d = true) (t1 : -7 ≤ k.tmod 8) (t2 : k.tmod 8 ≤ 7) (t3 : (k.tmod 8 + 8) % 8 = 3) (t4 : (k.tmod 8 + 8).tmod 8 = 3) :
    Calls Try.prog 42 #[rg a b c d, .int .i64 k] w fun e w' => e = .returned (rt (-b) (-c) (-d) a true) ∧ Below w.heap.size w w' := by
  have HX := hid hx
  clear hx
  have T1 := hid t1
  clear t1
  have T2 := hid t2
  clear t2
  have T3 := hid t3
  clear t3
  have T4 := hid t4
  clear t4
  go_enter Try.func42, Try.ntmps42
  go_wp2_with (first | (go_at_call 53; ((with_reducible refine (lg_t _ _ _ _ _ HX.out).mono ?_); rintro e w1 ⟨rfl, hb1⟩; obtain ⟨hc1, hf1, _⟩ := bcell hb1; have hz1 := hb1.size; (try simp at hz1); (try have hx10 : w.heap.size < w1.heap.size := (by omega)); (try have hx11 : w.heap.size + 1 < w1.heap.size := (by omega)); (try have hx12 : w.heap.size + 1 + 1 < w1.heap.size := (by omega)); (try have hx13 : w.heap.size + 1 + 1 + 1 < w1.heap.size := (by omega)))) | (go_at_call 65; ((with_reducible refine (tn_3 _ _ _ _ _ _ T1.out T2.out T3.out T4.out HX.out).mono ?_); rintro e w2 ⟨rfl, hb2⟩; obtain ⟨hc2, hf2, _⟩ := bcell hb2; have hz2 := hb2.size; (try simp at hz2); (try have hx20 : w.heap.size < w2.heap.size := (by omega)); (try have hx21 : w.heap.size + 1 < w2.heap.size := (by omega)); (try have hx22 : w.heap.size + 1 + 1 < w2.heap.size := (by omega)); (try have hx23 : w.heap.size + 1 + 1 + 1 < w2.heap.size := (by omega)))) | go_in)
  refine bodyPost_ret (v := rt (-b) (-c) (-d) a true) (by first | (simp [results, Try.results42, go_sem, *]; done) | (simp (disch := (first | omega | (simp; done) | (simp; omega))) [results, Try.results42, go_sem, *]; done) | (simp only [results, Try.results42]; go_simp; done)) rfl ⟨rfl, ?_⟩
  repeat' (first | (with_reducible exact Below.refl _ _) | (with_reducible refine Below.alloc ?_ ?_ _) | (with_reducible refine Below.drew ?_) | (with_reducible refine Below.setCell ?_ ?_ _) | (with_reducible refine chain ?_ (by assumption) ?_) | omega | (simp; done) | (simp; omega))

set_option maxRecDepth 100000 in
set_option maxHeartbeats 2000000 in
theorem omega_s_4 (a b c d k : Int) (w : World) (g1 : -1000 ≤ k) (g2 : k ≤ 1000) (hx : vr a b c d = true) (t1 : -7 ≤ k.tmod 8) (t2 : k.tmod 8 ≤ 7) (t3 : (k.tmod 8 + 8) % 8 = 4) (t4 : (k.tmod 8 + 8).tmod 8 = 4) :
    Calls Try.prog 42 #[rg a b c d, .int .i64 k] w fun e w' => e = .returned (rt (-a) (-b) (-c) (-d) true) ∧ Below w.heap.size w w' := by
  have HX := hid hx
  clear hx
  have T1 := hid t1
  clear t1
  have T2 := hid t2
  clear t2
  have T3 := hid t3
  clear t3
  have T4 := hid t4
  clear t4
  go_enter Try.func42, Try.ntmps42
  go_wp2_with (first | (go_at_call 53; ((with_reducible refine (lg_t _ _ _ _ _ HX.out).mono ?_); rintro e w1 ⟨rfl, hb1⟩; obtain ⟨hc1, hf1, _⟩ := bcell hb1; have hz1 := hb1.size; (try simp at hz1); (try have hx10 : w.heap.size < w1.heap.size := (by omega)); (try have hx11 : w.heap.size + 1 < w1.heap.size := (by omega)); (try have hx12 : w.heap.size + 1 + 1 < w1.heap.size := (by omega)); (try have hx13 : w.heap.size + 1 + 1 + 1 < w1.heap.size := (by omega)))) | (go_at_call 65; ((with_reducible refine (tn_4 _ _ _ _ _ _ T1.out T2.out T3.out T4.out HX.out).mono ?_); rintro e w2 ⟨rfl, hb2⟩; obtain ⟨hc2, hf2, _⟩ := bcell hb2; have hz2 := hb2.size; (try simp at hz2); (try have hx20 : w.heap.size < w2.heap.size := (by omega)); (try have hx21 : w.heap.size + 1 < w2.heap.size := (by omega)); (try have hx22 : w.heap.size + 1 + 1 < w2.heap.size := (by omega)); (try have hx23 : w.heap.size + 1 + 1 + 1 < w2.heap.size := (by omega)))) | go_in)
  refine bodyPost_ret (v := rt (-a) (-b) (-c) (-d) true) (by first | (simp [results, Try.results42, go_sem, *]; done) | (simp (disch := (first | omega | (simp; done) | (simp; omega))) [results, Try.results42, go_sem, *]; done) | (simp only [results, Try.results42]; go_simp; done)) rfl ⟨rfl, ?_⟩
  repeat' (first | (with_reducible exact Below.refl _ _) | (with_reducible refine Below.alloc ?_ ?_ _) | (with_reducible refine Below.drew ?_) | (with_reducible refine Below.setCell ?_ ?_ _) | (with_reducible refine chain ?_ (by assumption) ?_) | omega | (simp; done) | (simp; omega))

set_option maxRecDepth 100000 in
set_option maxHeartbeats 2000000 in
theorem omega_s_5 (a b c d k : Int) (w : World) (g1 : -1000 ≤ k) (g2 : k ≤ 1000) (hx : vr a b c d = true) (t1 : -7 ≤ k.tmod 8) (t2 : k.tmod 8 ≤ 7) (t3 : (k.tmod 8 + 8) % 8 = 5) (t4 : (k.tmod 8 + 8).tmod 8 = 5) :
    Calls Try.prog 42 #[rg a b c d, .int .i64 k] w fun e w' => e = .returned (rt d (-a) (-b) (-c) true) ∧ Below w.heap.size w w' := by
  have HX := hid hx
  clear hx
  have T1 := hid t1
  clear t1
  have T2 := hid t2
  clear t2
  have T3 := hid t3
  clear t3
  have T4 := hid t4
  clear t4
  go_enter Try.func42, Try.ntmps42
  go_wp2_with (first | (go_at_call 53; ((with_reducible refine (lg_t _ _ _ _ _ HX.out).mono ?_); rintro e w1 ⟨rfl, hb1⟩; obtain ⟨hc1, hf1, _⟩ := bcell hb1; have hz1 := hb1.size; (try simp at hz1); (try have hx10 : w.heap.size < w1.heap.size := (by omega)); (try have hx11 : w.heap.size + 1 < w1.heap.size := (by omega)); (try have hx12 : w.heap.size + 1 + 1 < w1.heap.size := (by omega)); (try have hx13 : w.heap.size + 1 + 1 + 1 < w1.heap.size := (by omega)))) | (go_at_call 65; ((with_reducible refine (tn_5 _ _ _ _ _ _ T1.out T2.out T3.out T4.out HX.out).mono ?_); rintro e w2 ⟨rfl, hb2⟩; obtain ⟨hc2, hf2, _⟩ := bcell hb2; have hz2 := hb2.size; (try simp at hz2); (try have hx20 : w.heap.size < w2.heap.size := (by omega)); (try have hx21 : w.heap.size + 1 < w2.heap.size := (by omega)); (try have hx22 : w.heap.size + 1 + 1 < w2.heap.size := (by omega)); (try have hx23 : w.heap.size + 1 + 1 + 1 < w2.heap.size := (by omega)))) | go_in)
  refine bodyPost_ret (v := rt d (-a) (-b) (-c) true) (by first | (simp [results, Try.results42, go_sem, *]; done) | (simp (disch := (first | omega | (simp; done) | (simp; omega))) [results, Try.results42, go_sem, *]; done) | (simp only [results, Try.results42]; go_simp; done)) rfl ⟨rfl, ?_⟩
  repeat' (first | (with_reducible exact Below.refl _ _) | (with_reducible refine Below.alloc ?_ ?_ _) | (with_reducible refine Below.drew ?_) | (with_reducible refine Below.setCell ?_ ?_ _) | (with_reducible refine chain ?_ (by assumption) ?_) | omega | (simp; done) | (simp; omega))

set_option maxRecDepth 100000 in
set_option maxHeartbeats 2000000 in
theorem omega_s_6 (a b c d k : Int) (w : World) (g1 : -1000 ≤ k) (g2 : k ≤ 1000) (hx : vr a b c d = true) (t1 : -7 ≤ k.tmod 8) (t2 : k.tmod 8 ≤ 7) (t3 : (k.tmod 8 + 8) % 8 = 6) (t4 : (k.tmod 8 + 8).tmod 8 = 6) :
    Calls Try.prog 42 #[rg a b c d, .int .i64 k] w fun e w' => e = .returned (rt c d (-a) (-b) true) ∧ Below w.heap.size w w' := by
  have HX := hid hx
  clear hx
  have T1 := hid t1
  clear t1
  have T2 := hid t2
  clear t2
  have T3 := hid t3
  clear t3
  have T4 := hid t4
  clear t4
  go_enter Try.func42, Try.ntmps42
  go_wp2_with (first | (go_at_call 53; ((with_reducible refine (lg_t _ _ _ _ _ HX.out).mono ?_); rintro e w1 ⟨rfl, hb1⟩; obtain ⟨hc1, hf1, _⟩ := bcell hb1; have hz1 := hb1.size; (try simp at hz1); (try have hx10 : w.heap.size < w1.heap.size := (by omega)); (try have hx11 : w.heap.size + 1 < w1.heap.size := (by omega)); (try have hx12 : w.heap.size + 1 + 1 < w1.heap.size := (by omega)); (try have hx13 : w.heap.size + 1 + 1 + 1 < w1.heap.size := (by omega)))) | (go_at_call 65; ((with_reducible refine (tn_6 _ _ _ _ _ _ T1.out T2.out T3.out T4.out HX.out).mono ?_); rintro e w2 ⟨rfl, hb2⟩; obtain ⟨hc2, hf2, _⟩ := bcell hb2; have hz2 := hb2.size; (try simp at hz2); (try have hx20 : w.heap.size < w2.heap.size := (by omega)); (try have hx21 : w.heap.size + 1 < w2.heap.size := (by omega)); (try have hx22 : w.heap.size + 1 + 1 < w2.heap.size := (by omega)); (try have hx23 : w.heap.size + 1 + 1 + 1 < w2.heap.size := (by omega)))) | go_in)
  refine bodyPost_ret (v := rt c d (-a) (-b) true) (by first | (simp [results, Try.results42, go_sem, *]; done) | (simp (disch := (first | omega | (simp; done) | (simp; omega))) [results, Try.results42, go_sem, *]; done) | (simp only [results, Try.results42]; go_simp; done)) rfl ⟨rfl, ?_⟩
  repeat' (first | (with_reducible exact Below.refl _ _) | (with_reducible refine Below.alloc ?_ ?_ _) | (with_reducible refine Below.drew ?_) | (with_reducible refine Below.setCell ?_ ?_ _) | (with_reducible refine chain ?_ (by assumption) ?_) | omega | (simp; done) | (simp; omega))

set_option maxRecDepth 100000 in
set_option maxHeartbeats 2000000 in
theorem omega_s_7 (a b c d k : Int) (w : World) (g1 : -1000 ≤ k) (g2 : k ≤ 1000) (hx : vr a b c d = true) (t1 : -7 ≤ k.tmod 8) (t2 : k.tmod 8 ≤ 7) (t3 : (k.tmod 8 + 8) % 8 = 7) (t4 : (k.tmod 8 + 8).tmod 8 = 7) :
    Calls Try.prog 42 #[rg a b c d, .int .i64 k] w fun e w' => e = .returned (rt b c d (-a) true) ∧ Below w.heap.size w w' := by
  have HX := hid hx
  clear hx
  have T1 := hid t1
  clear t1
  have T2 := hid t2
  clear t2
  have T3 := hid t3
  clear t3
  have T4 := hid t4
  clear t4
  go_enter Try.func42, Try.ntmps42
  go_wp2_with (first | (go_at_call 53; ((with_reducible refine (lg_t _ _ _ _ _ HX.out).mono ?_); rintro e w1 ⟨rfl, hb1⟩; obtain ⟨hc1, hf1, _⟩ := bcell hb1; have hz1 := hb1.size; (try simp at hz1); (try have hx10 : w.heap.size < w1.heap.size := (by omega)); (try have hx11 : w.heap.size + 1 < w1.heap.size := (by omega)); (try have hx12 : w.heap.size + 1 + 1 < w1.heap.size := (by omega)); (try have hx13 : w.heap.size + 1 + 1 + 1 < w1.heap.size := (by omega)))) | (go_at_call 65; ((with_reducible refine (tn_7 _ _ _ _ _ _ T1.out T2.out T3.out T4.out HX.out).mono ?_); rintro e w2 ⟨rfl, hb2⟩; obtain ⟨hc2, hf2, _⟩ := bcell hb2; have hz2 := hb2.size; (try simp at hz2); (try have hx20 : w.heap.size < w2.heap.size := (by omega)); (try have hx21 : w.heap.size + 1 < w2.heap.size := (by omega)); (try have hx22 : w.heap.size + 1 + 1 < w2.heap.size := (by omega)); (try have hx23 : w.heap.size + 1 + 1 + 1 < w2.heap.size := (by omega)))) | go_in)
  refine bodyPost_ret (v := rt b c d (-a) true) (by first | (simp [results, Try.results42, go_sem, *]; done) | (simp (disch := (first | omega | (simp; done) | (simp; omega))) [results, Try.results42, go_sem, *]; done) | (simp only [results, Try.results42]; go_simp; done)) rfl ⟨rfl, ?_⟩
  repeat' (first | (with_reducible exact Below.refl _ _) | (with_reducible refine Below.alloc ?_ ?_ _) | (with_reducible refine Below.drew ?_) | (with_reducible refine Below.setCell ?_ ?_ _) | (with_reducible refine chain ?_ (by assumption) ?_) | omega | (simp; done) | (simp; omega))

set_option maxRecDepth 100000 in
set_option maxHeartbeats 2000000 in
theorem omega_s_f (a b c d k : Int) (w : World) (hx : vr a b c d = false) :
    Calls Try.prog 42 #[rg a b c d, .int .i64 k] w fun e w' => e = .returned (rt 0 0 0 0 false) ∧ Below w.heap.size w w' := by
  have HX := hid hx
  clear hx
  go_enter Try.func42, Try.ntmps42
  go_wp2_with (first | (go_at_call 53; ((with_reducible refine (lg_f _ _ _ _ _ HX.out).mono ?_); rintro e w1 ⟨rfl, hb1⟩; obtain ⟨hc1, hf1, _⟩ := bcell hb1; have hz1 := hb1.size; (try simp at hz1); (try have hx10 : w.heap.size < w1.heap.size := (by omega)); (try have hx11 : w.heap.size + 1 < w1.heap.size := (by omega)); (try have hx12 : w.heap.size + 1 + 1 < w1.heap.size := (by omega)); (try have hx13 : w.heap.size + 1 + 1 + 1 < w1.heap.size := (by omega)))) | go_in)
  refine bodyPost_ret (v := rt 0 0 0 0 false) (by first | (simp [results, Try.results42, go_sem, *]; done) | (simp (disch := (first | omega | (simp; done) | (simp; omega))) [results, Try.results42, go_sem, *]; done) | (simp only [results, Try.results42]; go_simp; done)) rfl ⟨rfl, ?_⟩
  repeat' (first | (with_reducible exact Below.refl _ _) | (with_reducible refine Below.alloc ?_ ?_ _) | (with_reducible refine Below.drew ?_) | (with_reducible refine Below.setCell ?_ ?_ _) | (with_reducible refine chain ?_ (by assumption) ?_) | omega | (simp; done) | (simp; omega))

set_option maxRecDepth 100000 in
set_option maxHeartbeats 2000000 in
theorem omega_s_lo (a b c d k : Int) (w : World) (g1 : k < -1000) (hx : vr a b c d = true) :
    Calls Try.prog 42 #[rg a b c d, .int .i64 k] w fun e w' => e = .returned (rt 0 0 0 0 false) ∧ Below w.heap.size w w' := by
  have HX := hid hx
  clear hx
  go_enter Try.func42, Try.ntmps42
  go_wp2_with (first | (go_at_call 53; ((with_reducible refine (lg_t _ _ _ _ _ HX.out).mono ?_); rintro e w1 ⟨rfl, hb1⟩; obtain ⟨hc1, hf1, _⟩ := bcell hb1; have hz1 := hb1.size; (try simp at hz1); (try have hx10 : w.heap.size < w1.heap.size := (by omega)); (try have hx11 : w.heap.size + 1 < w1.heap.size := (by omega)); (try have hx12 : w.heap.size + 1 + 1 < w1.heap.size := (by omega)); (try have hx13 : w.heap.size + 1 + 1 + 1 < w1.heap.size := (by omega)))) | go_in)
  refine bodyPost_ret (v := rt 0 0 0 0 false) (by first | (simp [results, Try.results42, go_sem, *]; done) | (simp (disch := (first | omega | (simp; done) | (simp; omega))) [results, Try.results42, go_sem, *]; done) | (simp only [results, Try.results42]; go_simp; done)) rfl ⟨rfl, ?_⟩
  repeat' (first | (with_reducible exact Below.refl _ _) | (with_reducible refine Below.alloc ?_ ?_ _) | (with_reducible refine Below.drew ?_) | (with_reducible refine Below.setCell ?_ ?_ _) | (with_reducible refine chain ?_ (by assumption) ?_) | omega | (simp; done) | (simp; omega))

set_option maxRecDepth 100000 in
set_option maxHeartbeats 2000000 in
theorem omega_s_hi (a b c d k : Int) (w : World) (g1 : -1000 ≤ k) (g2 : decide (k ≤ 1000) = false) (hx : vr a b c d = true) :
    Calls Try.prog 42 #[rg a b c d, .int .i64 k] w fun e w' => e = .returned (rt 0 0 0 0 false) ∧ Below w.heap.size w w' := by
  have HX := hid hx
  clear hx
  go_enter Try.func42, Try.ntmps42
  go_wp2_with (first | (go_at_call 53; ((with_reducible refine (lg_t _ _ _ _ _ HX.out).mono ?_); rintro e w1 ⟨rfl, hb1⟩; obtain ⟨hc1, hf1, _⟩ := bcell hb1; have hz1 := hb1.size; (try simp at hz1); (try have hx10 : w.heap.size < w1.heap.size := (by omega)); (try have hx11 : w.heap.size + 1 < w1.heap.size := (by omega)); (try have hx12 : w.heap.size + 1 + 1 < w1.heap.size := (by omega)); (try have hx13 : w.heap.size + 1 + 1 + 1 < w1.heap.size := (by omega)))) | go_in)
  refine bodyPost_ret (v := rt 0 0 0 0 false) (by first | (simp [results, Try.results42, go_sem, *]; done) | (simp (disch := (first | omega | (simp; done) | (simp; omega))) [results, Try.results42, go_sem, *]; done) | (simp only [results, Try.results42]; go_simp; done)) rfl ⟨rfl, ?_⟩
  repeat' (first | (with_reducible exact Below.refl _ _) | (with_reducible refine Below.alloc ?_ ?_ _) | (with_reducible refine Below.drew ?_) | (with_reducible refine Below.setCell ?_ ?_ _) | (with_reducible refine chain ?_ (by assumption) ?_) | omega | (simp; done) | (simp; omega))
end Go.Proofs.Ytdcmicianbihjaa
