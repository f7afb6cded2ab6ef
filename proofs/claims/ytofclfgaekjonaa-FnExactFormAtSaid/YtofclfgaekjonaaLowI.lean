/- Contracts of DyadicOf, of the raising of a numerator, of IsValidDyadic. -/
import Derived.Test.YtofclfgaekjonaaLowS
import Derived.Test.YtofclfgaekjonaaDRootI
import Derived.Test.YtofclfgaekjonaaRootA
import Derived.Deep.LoopGhost
namespace Go.Proofs.Ytofclfgaekjonaa
open Go.RowKit RM
set_option linter.unusedVariables false
set_option linter.unusedSimpArgs false
attribute [local irreducible] World.setCell

theorem tm2'' (x : Int) : (x.tmod 2 == 0) = true ↔ x % 2 = 0 := by
  rw [beq_iff_eq, ← Int.dvd_iff_tmod_eq_zero]; omega
theorem di_t {a b c d : Int} (w : World) (hx : vr a b c d = true) (h : ev2 a b c d = true) :
    Calls Try.prog 173 #[rg a b c d] w fun ee w' => ee = .returned (rt ((b - d).tdiv 2) ((a + c).tdiv 2) ((b + d).tdiv 2) ((c - a).tdiv 2) true) ∧ Below w.heap.size w w' := by
  simp only [ev2, Bool.and_eq_true, tm2''] at h
  obtain ⟨k1, k2⟩ := h
  refine droot_i_t a b c d w hx ?_ (vr_half hx)
  simp only [Bool.and_eq_true]
  exact ⟨(tm2'' _).2 (by omega), (tm2'' _).2 (by omega), (tm2'' _).2 (by omega), (tm2'' _).2 (by omega)⟩
theorem di_f {a b c d : Int} (w : World) (hx : vr a b c d = true) (h : ev2 a b c d = false) :
    Calls Try.prog 173 #[rg a b c d] w fun ee w' => ee = .returned (rt 0 0 0 0 false) ∧ Below w.heap.size w w' := by
  refine droot_i_e a b c d w hx ?_
  cases k1 : ((a + c).tmod 2 == 0)
  · simp
  · unfold ev2 at h; rw [k1, Bool.true_and] at h; rw [h]; simp

set_option maxRecDepth 100000 in
set_option maxHeartbeats 4000000 in
theorem dof_t (a b c d : Int) (e : Nat) (A B C D : Int) (E : Nat) (w : World) (hx : vr a b c d = true) (he : e ≤ 60) (hl : low e a b c d = ⟨A, B, C, D, E⟩) :
    Calls Try.prog 130 #[rg a b c d, .int .i64 (e : Int)] w fun ee w' => ee = .returned (dt A B C D E true) ∧ Below w.heap.size w w' := by
  have HX := hid hx
  clear hx
  have HL := hid hl
  clear hl
  have he1 : ¬ ((e : Int) < 0) := by omega
  have he2 : ¬ ((60 : Int) < (e : Int)) := by omega
  have he3 : (e : Int) ≤ 60 := by omega
  go_enter Try.func130, Try.ntmps130
  go_wp2_with (first | (go_at_call 172; ((with_reducible refine (iv_t _ _ _ _ _ HX.out).mono ?_); rintro ee w1 ⟨rfl, hb1⟩; obtain ⟨hc1, hf1, _⟩ := bcell hb1; have hz1 := hb1.size; (try simp at hz1); (try have hx10 : w.heap.size < w1.heap.size := (by omega)); (try have hx11 : w.heap.size + 1 < w1.heap.size := (by omega)); (try have hx12 : w.heap.size + 1 + 1 < w1.heap.size := (by omega)); (try have hx13 : w.heap.size + 1 + 1 + 1 < w1.heap.size := (by omega)))) | fail)
  go_loopg [1] e (fun k s1 wr => ∃ a b c d : Int, k ≤ e ∧ s1 = .int .i64 (k : Int) ∧ Hid (vr a b c d = true ∧ low k a b c d = ⟨A, B, C, D, E⟩) ∧ C4 wr w.heap.size a b c d ∧ C5 wr (w.heap.size + 1) 0 0 0 0 0 ∧ Below w.heap.size w wr)
  case atStart => exact ⟨a, b, c, d, Nat.le_refl _, rfl, ⟨HX.out, HL.out⟩, ⟨by (first | rfl | assumption | (go_simp; done) | (simp (disch := (first | omega | (simp; done) | (simp; omega))) [go_sem, *]; done)), by (first | rfl | assumption | (go_simp; done) | (simp (disch := (first | omega | (simp; done) | (simp; omega))) [go_sem, *]; done)), by (first | rfl | assumption | (go_simp; done) | (simp (disch := (first | omega | (simp; done) | (simp; omega))) [go_sem, *]; done)), by (first | rfl | assumption | (go_simp; done) | (simp (disch := (first | omega | (simp; done) | (simp; omega))) [go_sem, *]; done)), by (first | rfl | assumption | (go_simp; done) | (simp (disch := (first | omega | (simp; done) | (simp; omega))) [go_sem, *]; done)), by (first | rfl | assumption | (go_simp; done) | (simp (disch := (first | omega | (simp; done) | (simp; omega))) [go_sem, *]; done)), by (first | rfl | assumption | (go_simp; done) | (simp (disch := (first | omega | (simp; done) | (simp; omega))) [go_sem, *]; done)), by (first | rfl | assumption | (go_simp; done) | (simp (disch := (first | omega | (simp; done) | (simp; omega))) [go_sem, *]; done))⟩, ⟨by (first | rfl | assumption | (go_simp; done) | (simp (disch := (first | omega | (simp; done) | (simp; omega))) [go_sem, *]; done)), by (first | rfl | assumption | (go_simp; done) | (simp (disch := (first | omega | (simp; done) | (simp; omega))) [go_sem, *]; done)), by (first | rfl | assumption | (go_simp; done) | (simp (disch := (first | omega | (simp; done) | (simp; omega))) [go_sem, *]; done)), by (first | rfl | assumption | (go_simp; done) | (simp (disch := (first | omega | (simp; done) | (simp; omega))) [go_sem, *]; done)), by (first | rfl | assumption | (go_simp; done) | (simp (disch := (first | omega | (simp; done) | (simp; omega))) [go_sem, *]; done)), by (first | rfl | assumption | (go_simp; done) | (simp (disch := (first | omega | (simp; done) | (simp; omega))) [go_sem, *]; done)), by (first | rfl | assumption | (go_simp; done) | (simp (disch := (first | omega | (simp; done) | (simp; omega))) [go_sem, *]; done)), by (first | rfl | assumption | (go_simp; done) | (simp (disch := (first | omega | (simp; done) | (simp; omega))) [go_sem, *]; done)), by (first | rfl | assumption | (go_simp; done) | (simp (disch := (first | omega | (simp; done) | (simp; omega))) [go_sem, *]; done)), by (first | rfl | assumption | (go_simp; done) | (simp (disch := (first | omega | (simp; done) | (simp; omega))) [go_sem, *]; done))⟩, by (repeat' (first | (with_reducible exact Below.refl _ _) | (with_reducible refine Below.alloc ?_ ?_ _) | (with_reducible refine Below.drew ?_) | (with_reducible refine Below.setCell ?_ ?_ _) | (with_reducible refine chain ?_ (by assumption) ?_) | omega | (simp; done) | (simp; omega)))⟩
  case round =>
    clear hc1 hf1
    obtain ⟨a', b', c', d', hk, rfl, HR, hC4, hC5, hB⟩ := hrel
    have hl4 := hC4.lt
    have hl5 := hC5.lt
    obtain ⟨q0, q1, q2, q3, q4, q5, q6, q7⟩ := hC4
    obtain ⟨r0, r1, r2, r3, r4, r5, r6, r7, r8, r9⟩ := hC5
    cases gk with
    | zero =>
      go_wp2_with (fail)
      have HR2 := HR.out.2
      simp only [low, Dy.mk.injEq] at HR2
      obtain ⟨rfl, rfl, rfl, rfl, rfl⟩ := HR2
      refine bodyPost_ret (v := dt a' b' c' d' 0 true) (by first | (simp [results, Try.results130, go_sem, *]; done) | (simp (disch := (first | omega | (simp; done) | (simp; omega))) [results, Try.results130, go_sem, *]; done) | (simp only [results, Try.results130]; go_simp; done)) rfl ⟨by first | rfl | simp, ?_⟩
      repeat' (first | (with_reducible exact Below.refl _ _) | (with_reducible refine Below.alloc ?_ ?_ _) | (with_reducible refine Below.drew ?_) | (with_reducible refine Below.setCell ?_ ?_ _) | (with_reducible refine chain ?_ (by assumption) ?_) | omega | (simp; done) | (simp; omega))
    | succ n =>
      have hn0 : (0 : Int) < (n : Int) + 1 := by omega
      have hn1 : (n : Int) ≤ 60 := by omega
      cases hv : ev2 a' b' c' d'
      · have HV := hid hv
        clear hv
        go_wp2_with (first | (go_at_call 173; ((with_reducible refine (di_f _ HR.out.1 HV.out).mono ?_); rintro ee w2 ⟨rfl, hb2⟩; obtain ⟨hc2, hf2, _⟩ := bcell hb2; have hz2 := hb2.size; (try simp at hz2); (try have ho2a : w.heap.size < w2.heap.size := (by omega)); (try have ho2b : w.heap.size + 1 < w2.heap.size := (by omega)))) | fail)
        have HR2 := HR.out.2
        rw [low, if_neg (by rw [HV.out]; decide)] at HR2
        simp only [Dy.mk.injEq] at HR2
        obtain ⟨rfl, rfl, rfl, rfl, rfl⟩ := HR2
        refine bodyPost_ret (v := dt a' b' c' d' ((n : Int) + 1) true) (by first | (simp [results, Try.results130, go_sem, *]; done) | (simp (disch := (first | omega | (simp; done) | (simp; omega))) [results, Try.results130, go_sem, *]; done) | (simp only [results, Try.results130]; go_simp; done)) rfl ⟨by first | rfl | simp, ?_⟩
        repeat' (first | (with_reducible exact Below.refl _ _) | (with_reducible refine Below.alloc ?_ ?_ _) | (with_reducible refine Below.drew ?_) | (with_reducible refine Below.setCell ?_ ?_ _) | (with_reducible refine chain ?_ (by assumption) ?_) | omega | (simp; done) | (simp; omega))
      · have HV := hid hv
        clear hv
        go_wp2_with (first | (go_at_call 173; ((with_reducible refine (di_t _ HR.out.1 HV.out).mono ?_); rintro ee w2 ⟨rfl, hb2⟩; obtain ⟨hc2, hf2, _⟩ := bcell hb2; have hz2 := hb2.size; (try simp at hz2); (try have ho2a : w.heap.size < w2.heap.size := (by omega)); (try have ho2b : w.heap.size + 1 < w2.heap.size := (by omega)))) | fail)
        go_roundg n
        case measure => omega
        case rel =>
          have HR2 := HR.out.2
          rw [low, if_pos HV.out] at HR2
          exact ⟨_, _, _, _, by omega, by first | rfl | (simp; done) | (simp; omega), ⟨vr_half HR.out.1, HR2⟩, ⟨by (first | rfl | assumption | (go_simp; done) | (simp (disch := (first | omega | (simp; done) | (simp; omega))) [go_sem, *]; done)), by (first | rfl | assumption | (go_simp; done) | (simp (disch := (first | omega | (simp; done) | (simp; omega))) [go_sem, *]; done)), by (first | rfl | assumption | (go_simp; done) | (simp (disch := (first | omega | (simp; done) | (simp; omega))) [go_sem, *]; done)), by (first | rfl | assumption | (go_simp; done) | (simp (disch := (first | omega | (simp; done) | (simp; omega))) [go_sem, *]; done)), by (first | rfl | assumption | (go_simp; done) | (simp (disch := (first | omega | (simp; done) | (simp; omega))) [go_sem, *]; done)), by (first | rfl | assumption | (go_simp; done) | (simp (disch := (first | omega | (simp; done) | (simp; omega))) [go_sem, *]; done)), by (first | rfl | assumption | (go_simp; done) | (simp (disch := (first | omega | (simp; done) | (simp; omega))) [go_sem, *]; done)), by (first | rfl | assumption | (go_simp; done) | (simp (disch := (first | omega | (simp; done) | (simp; omega))) [go_sem, *]; done))⟩, ⟨by (first | rfl | assumption | (go_simp; done) | (simp (disch := (first | omega | (simp; done) | (simp; omega))) [go_sem, *]; done)), by (first | rfl | assumption | (go_simp; done) | (simp (disch := (first | omega | (simp; done) | (simp; omega))) [go_sem, *]; done)), by (first | rfl | assumption | (go_simp; done) | (simp (disch := (first | omega | (simp; done) | (simp; omega))) [go_sem, *]; done)), by (first | rfl | assumption | (go_simp; done) | (simp (disch := (first | omega | (simp; done) | (simp; omega))) [go_sem, *]; done)), by (first | rfl | assumption | (go_simp; done) | (simp (disch := (first | omega | (simp; done) | (simp; omega))) [go_sem, *]; done)), by (first | rfl | assumption | (go_simp; done) | (simp (disch := (first | omega | (simp; done) | (simp; omega))) [go_sem, *]; done)), by (first | rfl | assumption | (go_simp; done) | (simp (disch := (first | omega | (simp; done) | (simp; omega))) [go_sem, *]; done)), by (first | rfl | assumption | (go_simp; done) | (simp (disch := (first | omega | (simp; done) | (simp; omega))) [go_sem, *]; done)), by (first | rfl | assumption | (go_simp; done) | (simp (disch := (first | omega | (simp; done) | (simp; omega))) [go_sem, *]; done)), by (first | rfl | assumption | (go_simp; done) | (simp (disch := (first | omega | (simp; done) | (simp; omega))) [go_sem, *]; done))⟩, by (repeat' (first | (with_reducible exact Below.refl _ _) | (with_reducible refine Below.alloc ?_ ?_ _) | (with_reducible refine Below.drew ?_) | (with_reducible refine Below.setCell ?_ ?_ _) | (with_reducible refine chain ?_ (by assumption) ?_) | omega | (simp; done) | (simp; omega)))⟩

set_option maxRecDepth 100000 in
set_option maxHeartbeats 2000000 in
theorem dof_f (a b c d e : Int) (w : World) (hx : vr a b c d = false) :
    Calls Try.prog 130 #[rg a b c d, .int .i64 e] w fun ee w' => ee = .returned (dt 0 0 0 0 0 false) ∧ Below w.heap.size w w' := by
  have HX := hid hx
  clear hx
  go_enter Try.func130, Try.ntmps130
  go_wp2_with (first | (go_at_call 172; ((with_reducible refine (iv_f _ _ _ _ _ HX.out).mono ?_); rintro ee w1 ⟨rfl, hb1⟩; obtain ⟨hc1, hf1, _⟩ := bcell hb1; have hz1 := hb1.size; (try simp at hz1); (try have hx10 : w.heap.size < w1.heap.size := (by omega)); (try have hx11 : w.heap.size + 1 < w1.heap.size := (by omega)); (try have hx12 : w.heap.size + 1 + 1 < w1.heap.size := (by omega)); (try have hx13 : w.heap.size + 1 + 1 + 1 < w1.heap.size := (by omega)))) | go_in)
  refine bodyPost_ret (v := dt 0 0 0 0 0 false) (by first | (simp [results, Try.results130, go_sem, *]; done) | (simp (disch := (first | omega | (simp; done) | (simp; omega))) [results, Try.results130, go_sem, *]; done) | (simp only [results, Try.results130]; go_simp; done)) rfl ⟨rfl, ?_⟩
  repeat' (first | (with_reducible exact Below.refl _ _) | (with_reducible refine Below.alloc ?_ ?_ _) | (with_reducible refine Below.drew ?_) | (with_reducible refine Below.setCell ?_ ?_ _) | (with_reducible refine chain ?_ (by assumption) ?_) | omega | (simp; done) | (simp; omega))

set_option maxRecDepth 100000 in
set_option maxHeartbeats 2000000 in
theorem dof_n (a b c d e : Int) (w : World) (hx : vr a b c d = true) (he : e < 0) :
    Calls Try.prog 130 #[rg a b c d, .int .i64 e] w fun ee w' => ee = .returned (dt 0 0 0 0 0 false) ∧ Below w.heap.size w w' := by
  have he2 : e < 0 := he
  have HX := hid hx
  clear hx
  have HE := hid he
  clear he
  go_enter Try.func130, Try.ntmps130
  go_wp2_with (first | (go_at_call 172; ((with_reducible refine (iv_t _ _ _ _ _ HX.out).mono ?_); rintro ee w1 ⟨rfl, hb1⟩; obtain ⟨hc1, hf1, _⟩ := bcell hb1; have hz1 := hb1.size; (try simp at hz1); (try have hx10 : w.heap.size < w1.heap.size := (by omega)); (try have hx11 : w.heap.size + 1 < w1.heap.size := (by omega)); (try have hx12 : w.heap.size + 1 + 1 < w1.heap.size := (by omega)); (try have hx13 : w.heap.size + 1 + 1 + 1 < w1.heap.size := (by omega)))) | go_in)
  refine bodyPost_ret (v := dt 0 0 0 0 0 false) (by first | (simp [results, Try.results130, go_sem, *]; done) | (simp (disch := (first | omega | (simp; done) | (simp; omega))) [results, Try.results130, go_sem, *]; done) | (simp only [results, Try.results130]; go_simp; done)) rfl ⟨rfl, ?_⟩
  repeat' (first | (with_reducible exact Below.refl _ _) | (with_reducible refine Below.alloc ?_ ?_ _) | (with_reducible refine Below.drew ?_) | (with_reducible refine Below.setCell ?_ ?_ _) | (with_reducible refine chain ?_ (by assumption) ?_) | omega | (simp; done) | (simp; omega))

set_option maxRecDepth 100000 in
set_option maxHeartbeats 2000000 in
theorem dof_m (a b c d e : Int) (w : World) (hx : vr a b c d = true) (he : 60 < e) :
    Calls Try.prog 130 #[rg a b c d, .int .i64 e] w fun ee w' => ee = .returned (dt 0 0 0 0 0 false) ∧ Below w.heap.size w w' := by
  have he2 : 60 < e := he
  have he3 : ¬ (e < 0) := by omega
  have HX := hid hx
  clear hx
  have HE := hid he
  clear he
  go_enter Try.func130, Try.ntmps130
  go_wp2_with (first | (go_at_call 172; ((with_reducible refine (iv_t _ _ _ _ _ HX.out).mono ?_); rintro ee w1 ⟨rfl, hb1⟩; obtain ⟨hc1, hf1, _⟩ := bcell hb1; have hz1 := hb1.size; (try simp at hz1); (try have hx10 : w.heap.size < w1.heap.size := (by omega)); (try have hx11 : w.heap.size + 1 < w1.heap.size := (by omega)); (try have hx12 : w.heap.size + 1 + 1 < w1.heap.size := (by omega)); (try have hx13 : w.heap.size + 1 + 1 + 1 < w1.heap.size := (by omega)))) | go_in)
  refine bodyPost_ret (v := dt 0 0 0 0 0 false) (by first | (simp [results, Try.results130, go_sem, *]; done) | (simp (disch := (first | omega | (simp; done) | (simp; omega))) [results, Try.results130, go_sem, *]; done) | (simp only [results, Try.results130]; go_simp; done)) rfl ⟨rfl, ?_⟩
  repeat' (first | (with_reducible exact Below.refl _ _) | (with_reducible refine Below.alloc ?_ ?_ _) | (with_reducible refine Below.drew ?_) | (with_reducible refine Below.setCell ?_ ?_ _) | (with_reducible refine chain ?_ (by assumption) ?_) | omega | (simp; done) | (simp; omega))
end Go.Proofs.Ytofclfgaekjonaa
