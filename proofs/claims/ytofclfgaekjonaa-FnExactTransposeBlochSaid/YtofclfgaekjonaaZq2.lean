/- RootA, LowI, DyV, MxD, Rais -/
import Derived.Test.YtofclfgaekjonaaZq0
import Derived.Test.YtofclfgaekjonaaZq1
import Derived.Deep.LoopGhost
namespace Go.Proofs.Ytofclfgaekjonaa
open Go.RowKit RM
set_option linter.unusedVariables false
set_option linter.unusedSimpArgs false

set_option maxRecDepth 100000 in
set_option maxHeartbeats 2000000 in
theorem root_i_t (a b c d : Int) (w : World) (hx : vr a b c d = true) (hv : vr (b - d) (a + c) (b + d) (c - a) = true) :
    Calls Try.prog 201 #[rg a b c d] w fun e w' => e = .returned (rt (b - d) (a + c) (b + d) (c - a) true) ∧ Below w.heap.size w w' := by
  obtain ⟨⟨a1, a2⟩, ⟨b1, b2⟩, ⟨c1, c2⟩, ⟨d1, d2⟩⟩ := vr_iff.1 hx
  have HX := hid hx
  clear hx
  have HV := hid hv
  clear hv
  go_enter Try.func201, Try.ntmps201
  go_wp2_with (first | (go_at_call 172; ((with_reducible refine (iv_t _ _ _ _ _ HX.out).mono ?_); rintro e w1 ⟨rfl, hb1⟩; obtain ⟨hc1, hf1, _⟩ := bcell hb1; have hz1 := hb1.size; (try simp at hz1); (try have hx10 : w.heap.size < w1.heap.size := (by omega)); (try have hx11 : w.heap.size + 1 < w1.heap.size := (by omega)); (try have hx12 : w.heap.size + 1 + 1 < w1.heap.size := (by omega)); (try have hx13 : w.heap.size + 1 + 1 + 1 < w1.heap.size := (by omega)))) | (go_at_call 178; ((with_reducible refine (ro_t _ _ _ _ _ HV.out).mono ?_); rintro e w4 ⟨rfl, hb4⟩; obtain ⟨hc4, hf4, _⟩ := bcell hb4; have hz4 := hb4.size; (try simp at hz4); (try have hx40 : w.heap.size < w4.heap.size := (by omega)); (try have hx41 : w.heap.size + 1 < w4.heap.size := (by omega)); (try have hx42 : w.heap.size + 1 + 1 < w4.heap.size := (by omega)); (try have hx43 : w.heap.size + 1 + 1 + 1 < w4.heap.size := (by omega)); have zc0 : w4.cell? ⟨w.heap.size + 1, 0, none⟩ = some (.int .i64 0) := (by rw [hc4 _ _ (by first | omega | (simp; omega))]; go_simp); have zc1 : w4.cell? ⟨w.heap.size + 1, 1, none⟩ = some (.int .i64 0) := (by rw [hc4 _ _ (by first | omega | (simp; omega))]; go_simp); have zc2 : w4.cell? ⟨w.heap.size + 1, 2, none⟩ = some (.int .i64 0) := (by rw [hc4 _ _ (by first | omega | (simp; omega))]; go_simp); have zc3 : w4.cell? ⟨w.heap.size + 1, 3, none⟩ = some (.int .i64 0) := (by rw [hc4 _ _ (by first | omega | (simp; omega))]; go_simp); have zf0 : w4.frozen? ⟨w.heap.size + 1, 0, none⟩ = false := (by rw [hf4 _ _ (by first | omega | (simp; omega))]; go_simp); have zf1 : w4.frozen? ⟨w.heap.size + 1, 1, none⟩ = false := (by rw [hf4 _ _ (by first | omega | (simp; omega))]; go_simp); have zf2 : w4.frozen? ⟨w.heap.size + 1, 2, none⟩ = false := (by rw [hf4 _ _ (by first | omega | (simp; omega))]; go_simp); have zf3 : w4.frozen? ⟨w.heap.size + 1, 3, none⟩ = false := (by rw [hf4 _ _ (by first | omega | (simp; omega))]; go_simp))) | go_in)
  refine bodyPost_ret (v := rt (b - d) (a + c) (b + d) (c - a) true) (by first | (simp [results, Try.results201, go_sem, *]; done) | (simp (disch := (first | omega | (simp; done) | (simp; omega))) [results, Try.results201, go_sem, *]; done) | (simp only [results, Try.results201]; go_simp; done)) rfl ⟨rfl, ?_⟩
  repeat' (first | (with_reducible exact Below.refl _ _) | (with_reducible refine Below.alloc ?_ ?_ _) | (with_reducible refine Below.drew ?_) | (with_reducible refine Below.setCell ?_ ?_ _) | (with_reducible refine chain ?_ (by assumption) ?_) | omega | (simp; done) | (simp; omega))

set_option maxRecDepth 100000 in
set_option maxHeartbeats 2000000 in
theorem root_i_o (a b c d : Int) (w : World) (hx : vr a b c d = true) (hv : vr (b - d) (a + c) (b + d) (c - a) = false) :
    Calls Try.prog 201 #[rg a b c d] w fun e w' => e = .returned (rt 0 0 0 0 false) ∧ Below w.heap.size w w' := by
  obtain ⟨⟨a1, a2⟩, ⟨b1, b2⟩, ⟨c1, c2⟩, ⟨d1, d2⟩⟩ := vr_iff.1 hx
  have HX := hid hx
  clear hx
  have HV := hid hv
  clear hv
  go_enter Try.func201, Try.ntmps201
  go_wp2_with (first | (go_at_call 172; ((with_reducible refine (iv_t _ _ _ _ _ HX.out).mono ?_); rintro e w1 ⟨rfl, hb1⟩; obtain ⟨hc1, hf1, _⟩ := bcell hb1; have hz1 := hb1.size; (try simp at hz1); (try have hx10 : w.heap.size < w1.heap.size := (by omega)); (try have hx11 : w.heap.size + 1 < w1.heap.size := (by omega)); (try have hx12 : w.heap.size + 1 + 1 < w1.heap.size := (by omega)); (try have hx13 : w.heap.size + 1 + 1 + 1 < w1.heap.size := (by omega)))) | (go_at_call 178; ((with_reducible refine (ro_f _ _ _ _ _ HV.out).mono ?_); rintro e w4 ⟨rfl, hb4⟩; obtain ⟨hc4, hf4, _⟩ := bcell hb4; have hz4 := hb4.size; (try simp at hz4); (try have hx40 : w.heap.size < w4.heap.size := (by omega)); (try have hx41 : w.heap.size + 1 < w4.heap.size := (by omega)); (try have hx42 : w.heap.size + 1 + 1 < w4.heap.size := (by omega)); (try have hx43 : w.heap.size + 1 + 1 + 1 < w4.heap.size := (by omega)); have zc0 : w4.cell? ⟨w.heap.size + 1, 0, none⟩ = some (.int .i64 0) := (by rw [hc4 _ _ (by first | omega | (simp; omega))]; go_simp); have zc1 : w4.cell? ⟨w.heap.size + 1, 1, none⟩ = some (.int .i64 0) := (by rw [hc4 _ _ (by first | omega | (simp; omega))]; go_simp); have zc2 : w4.cell? ⟨w.heap.size + 1, 2, none⟩ = some (.int .i64 0) := (by rw [hc4 _ _ (by first | omega | (simp; omega))]; go_simp); have zc3 : w4.cell? ⟨w.heap.size + 1, 3, none⟩ = some (.int .i64 0) := (by rw [hc4 _ _ (by first | omega | (simp; omega))]; go_simp); have zf0 : w4.frozen? ⟨w.heap.size + 1, 0, none⟩ = false := (by rw [hf4 _ _ (by first | omega | (simp; omega))]; go_simp); have zf1 : w4.frozen? ⟨w.heap.size + 1, 1, none⟩ = false := (by rw [hf4 _ _ (by first | omega | (simp; omega))]; go_simp); have zf2 : w4.frozen? ⟨w.heap.size + 1, 2, none⟩ = false := (by rw [hf4 _ _ (by first | omega | (simp; omega))]; go_simp); have zf3 : w4.frozen? ⟨w.heap.size + 1, 3, none⟩ = false := (by rw [hf4 _ _ (by first | omega | (simp; omega))]; go_simp))) | go_in)
  refine bodyPost_ret (v := rt 0 0 0 0 false) (by first | (simp [results, Try.results201, go_sem, *]; done) | (simp (disch := (first | omega | (simp; done) | (simp; omega))) [results, Try.results201, go_sem, *]; done) | (simp only [results, Try.results201]; go_simp; done)) rfl ⟨rfl, ?_⟩
  repeat' (first | (with_reducible exact Below.refl _ _) | (with_reducible refine Below.alloc ?_ ?_ _) | (with_reducible refine Below.drew ?_) | (with_reducible refine Below.setCell ?_ ?_ _) | (with_reducible refine chain ?_ (by assumption) ?_) | omega | (simp; done) | (simp; omega))

end Go.Proofs.Ytofclfgaekjonaa
namespace Go.Proofs.Ytofclfgaekjonaa
open Go.RowKit RM
set_option linter.unusedVariables false
set_option linter.unusedSimpArgs false
attribute [local irreducible] World.setCell

theorem tm2'' (x : Int) : (x.tmod 2 == 0) = true ↔ x % 2 = 0 := by
  rw [beq_iff_eq, ← Int.dvd_iff_tmod_eq_zero]; omega
theorem di_t {a b c d : Int} (w : World) (hx : vr a b c d = true) (h : ev2 a b c d = true) :
    Calls Try.prog 173 #[rg a b c d] w fun ee w' => ee = .returned (rt ((b - d).tdiv 2) ((a + c).tdiv 2) ((b + d).tdiv 2) ((c - a).tdiv 2) true) ∧ Below w.heap.size w w' := by
  simp only [ev2, Bool.and_eq_true, tm2''] at h
  obtain ⟨k1, k2⟩ := h
  refine droot_i_t a b c d w hx ?_ (vr_half hx)
  simp only [Bool.and_eq_true]
  exact ⟨(tm2'' _).2 (by omega), (tm2'' _).2 (by omega), (tm2'' _).2 (by omega), (tm2'' _).2 (by omega)⟩
theorem di_f {a b c d : Int} (w : World) (hx : vr a b c d = true) (h : ev2 a b c d = false) :
    Calls Try.prog 173 #[rg a b c d] w fun ee w' => ee = .returned (rt 0 0 0 0 false) ∧ Below w.heap.size w w' := by
  refine droot_i_e a b c d w hx ?_
  cases k1 : ((a + c).tmod 2 == 0)
  · simp
  · unfold ev2 at h; rw [k1, Bool.true_and] at h; rw [h]; simp

set_option maxRecDepth 100000 in
set_option maxHeartbeats 4000000 in
theorem dof_t (a b c d : Int) (e : Nat) (A B C D : Int) (E : Nat) (w : World) (hx : vr a b c d = true) (he : e ≤ 60) (hl : low e a b c d = ⟨A, B, C, D, E⟩) :
    Calls Try.prog 130 #[rg a b c d, .int .i64 (e : Int)] w fun ee w' => ee = .returned (dt A B C D E true) ∧ Below w.heap.size w w' := by
  have HX := hid hx
  clear hx
  have HL := hid hl
  clear hl
  have he1 : ¬ ((e : Int) < 0) := by omega
  have he2 : ¬ ((60 : Int) < (e : Int)) := by omega
  have he3 : (e : Int) ≤ 60 := by omega
  go_enter Try.func130, Try.ntmps130
  go_wp2_with (first | (go_at_call 172; ((with_reducible refine (iv_t _ _ _ _ _ HX.out).mono ?_); rintro ee w1 ⟨rfl, hb1⟩; obtain ⟨hc1, hf1, _⟩ := bcell hb1; have hz1 := hb1.size; (try simp at hz1); (try have hx10 : w.heap.size < w1.heap.size := (by omega)); (try have hx11 : w.heap.size + 1 < w1.heap.size := (by omega)); (try have hx12 : w.heap.size + 1 + 1 < w1.heap.size := (by omega)); (try have hx13 : w.heap.size + 1 + 1 + 1 < w1.heap.size := (by omega)))) | fail)
  go_loopg [1] e (fun k s1 wr => ∃ a b c d : Int, k ≤ e ∧ s1 = .int .i64 (k : Int) ∧ Hid (vr a b c d = true ∧ low k a b c d = ⟨A, B, C, D, E⟩) ∧ C4 wr w.heap.size a b c d ∧ C5 wr (w.heap.size + 1) 0 0 0 0 0 ∧ Below w.heap.size w wr)
  case atStart => exact ⟨a, b, c, d, Nat.le_refl _, rfl, ⟨HX.out, HL.out⟩, ⟨by (first | rfl | assumption | (go_simp; done) | (simp (disch := (first | omega | (simp; done) | (simp; omega))) [go_sem, *]; done)), by (first | rfl | assumption | (go_simp; done) | (simp (disch := (first | omega | (simp; done) | (simp; omega))) [go_sem, *]; done)), by (first | rfl | assumption | (go_simp; done) | (simp (disch := (first | omega | (simp; done) | (simp; omega))) [go_sem, *]; done)), by (first | rfl | assumption | (go_simp; done) | (simp (disch := (first | omega | (simp; done) | (simp; omega))) [go_sem, *]; done)), by (first | rfl | assumption | (go_simp; done) | (simp (disch := (first | omega | (simp; done) | (simp; omega))) [go_sem, *]; done)), by (first | rfl | assumption | (go_simp; done) | (simp (disch := (first | omega | (simp; done) | (simp; omega))) [go_sem, *]; done)), by (first | rfl | assumption | (go_simp; done) | (simp (disch := (first | omega | (simp; done) | (simp; omega))) [go_sem, *]; done)), by (first | rfl | assumption | (go_simp; done) | (simp (disch := (first | omega | (simp; done) | (simp; omega))) [go_sem, *]; done))⟩, ⟨by (first | rfl | assumption | (go_simp; done) | (simp (disch := (first | omega | (simp; done) | (simp; omega))) [go_sem, *]; done)), by (first | rfl | assumption | (go_simp; done) | (simp (disch := (first | omega | (simp; done) | (simp; omega))) [go_sem, *]; done)), by (first | rfl | assumption | (go_simp; done) | (simp (disch := (first | omega | (simp; done) | (simp; omega))) [go_sem, *]; done)), by (first | rfl | assumption | (go_simp; done) | (simp (disch := (first | omega | (simp; done) | (simp; omega))) [go_sem, *]; done)), by (first | rfl | assumption | (go_simp; done) | (simp (disch := (first | omega | (simp; done) | (simp; omega))) [go_sem, *]; done)), by (first | rfl | assumption | (go_simp; done) | (simp (disch := (first | omega | (simp; done) | (simp; omega))) [go_sem, *]; done)), by (first | rfl | assumption | (go_simp; done) | (simp (disch := (first | omega | (simp; done) | (simp; omega))) [go_sem, *]; done)), by (first | rfl | assumption | (go_simp; done) | (simp (disch := (first | omega | (simp; done) | (simp; omega))) [go_sem, *]; done)), by (first | rfl | assumption | (go_simp; done) | (simp (disch := (first | omega | (simp; done) | (simp; omega))) [go_sem, *]; done)), by (first | rfl | assumption | (go_simp; done) | (simp (disch := (first | omega | (simp; done) | (simp; omega))) [go_sem, *]; done))⟩, by (repeat' (first | (with_reducible exact Below.refl _ _) | (with_reducible refine Below.alloc ?_ ?_ _) | (with_reducible refine Below.drew ?_) | (with_reducible refine Below.setCell ?_ ?_ _) | (with_reducible refine chain ?_ (by assumption) ?_) | omega | (simp; done) | (simp; omega)))⟩
  case round =>
    clear hc1 hf1
    obtain ⟨a', b', c', d', hk, rfl, HR, hC4, hC5, hB⟩ := hrel
    have hl4 := hC4.lt
    have hl5 := hC5.lt
    obtain ⟨q0, q1, q2, q3, q4, q5, q6, q7⟩ := hC4
    obtain ⟨r0, r1, r2, r3, r4, r5, r6, r7, r8, r9⟩ := hC5
    cases gk with
    | zero =>
      go_wp2_with (fail)
      have HR2 := HR.out.2
      simp only [low, Dy.mk.injEq] at HR2
      obtain ⟨rfl, rfl, rfl, rfl, rfl⟩ := HR2
      refine bodyPost_ret (v := dt a' b' c' d' 0 true) (by first | (simp [results, Try.results130, go_sem, *]; done) | (simp (disch := (first | omega | (simp; done) | (simp; omega))) [results, Try.results130, go_sem, *]; done) | (simp only [results, Try.results130]; go_simp; done)) rfl ⟨by first | rfl | simp, ?_⟩
      repeat' (first | (with_reducible exact Below.refl _ _) | (with_reducible refine Below.alloc ?_ ?_ _) | (with_reducible refine Below.drew ?_) | (with_reducible refine Below.setCell ?_ ?_ _) | (with_reducible refine chain ?_ (by assumption) ?_) | omega | (simp; done) | (simp; omega))
    | succ n =>
      have hn0 : (0 : Int) < (n : Int) + 1 := by omega
      have hn1 : (n : Int) ≤ 60 := by omega
      cases hv : ev2 a' b' c' d'
      · have HV := hid hv
        clear hv
        go_wp2_with (first | (go_at_call 173; ((with_reducible refine (di_f _ HR.out.1 HV.out).mono ?_); rintro ee w2 ⟨rfl, hb2⟩; obtain ⟨hc2, hf2, _⟩ := bcell hb2; have hz2 := hb2.size; (try simp at hz2); (try have ho2a : w.heap.size < w2.heap.size := (by omega)); (try have ho2b : w.heap.size + 1 < w2.heap.size := (by omega)))) | fail)
        have HR2 := HR.out.2
        rw [low, if_neg (by rw [HV.out]; decide)] at HR2
        simp only [Dy.mk.injEq] at HR2
        obtain ⟨rfl, rfl, rfl, rfl, rfl⟩ := HR2
        refine bodyPost_ret (v := dt a' b' c' d' ((n : Int) + 1) true) (by first | (simp [results, Try.results130, go_sem, *]; done) | (simp (disch := (first | omega | (simp; done) | (simp; omega))) [results, Try.results130, go_sem, *]; done) | (simp only [results, Try.results130]; go_simp; done)) rfl ⟨by first | rfl | simp, ?_⟩
        repeat' (first | (with_reducible exact Below.refl _ _) | (with_reducible refine Below.alloc ?_ ?_ _) | (with_reducible refine Below.drew ?_) | (with_reducible refine Below.setCell ?_ ?_ _) | (with_reducible refine chain ?_ (by assumption) ?_) | omega | (simp; done) | (simp; omega))
      · have HV := hid hv
        clear hv
        go_wp2_with (first | (go_at_call 173; ((with_reducible refine (di_t _ HR.out.1 HV.out).mono ?_); rintro ee w2 ⟨rfl, hb2⟩; obtain ⟨hc2, hf2, _⟩ := bcell hb2; have hz2 := hb2.size; (try simp at hz2); (try have ho2a : w.heap.size < w2.heap.size := (by omega)); (try have ho2b : w.heap.size + 1 < w2.heap.size := (by omega)))) | fail)
        go_roundg n
        case measure => omega
        case rel =>
          have HR2 := HR.out.2
          rw [low, if_pos HV.out] at HR2
          exact ⟨_, _, _, _, by omega, by first | rfl | (simp; done) | (simp; omega), ⟨vr_half HR.out.1, HR2⟩, ⟨by (first | rfl | assumption | (go_simp; done) | (simp (disch := (first | omega | (simp; done) | (simp; omega))) [go_sem, *]; done)), by (first | rfl | assumption | (go_simp; done) | (simp (disch := (first | omega | (simp; done) | (simp; omega))) [go_sem, *]; done)), by (first | rfl | assumption | (go_simp; done) | (simp (disch := (first | omega | (simp; done) | (simp; omega))) [go_sem, *]; done)), by (first | rfl | assumption | (go_simp; done) | (simp (disch := (first | omega | (simp; done) | (simp; omega))) [go_sem, *]; done)), by (first | rfl | assumption | (go_simp; done) | (simp (disch := (first | omega | (simp; done) | (simp; omega))) [go_sem, *]; done)), by (first | rfl | assumption | (go_simp; done) | (simp (disch := (first | omega | (simp; done) | (simp; omega))) [go_sem, *]; done)), by (first | rfl | assumption | (go_simp; done) | (simp (disch := (first | omega | (simp; done) | (simp; omega))) [go_sem, *]; done)), by (first | rfl | assumption | (go_simp; done) | (simp (disch := (first | omega | (simp; done) | (simp; omega))) [go_sem, *]; done))⟩, ⟨by (first | rfl | assumption | (go_simp; done) | (simp (disch := (first | omega | (simp; done) | (simp; omega))) [go_sem, *]; done)), by (first | rfl | assumption | (go_simp; done) | (simp (disch := (first | omega | (simp; done) | (simp; omega))) [go_sem, *]; done)), by (first | rfl | assumption | (go_simp; done) | (simp (disch := (first | omega | (simp; done) | (simp; omega))) [go_sem, *]; done)), by (first | rfl | assumption | (go_simp; done) | (simp (disch := (first | omega | (simp; done) | (simp; omega))) [go_sem, *]; done)), by (first | rfl | assumption | (go_simp; done) | (simp (disch := (first | omega | (simp; done) | (simp; omega))) [go_sem, *]; done)), by (first | rfl | assumption | (go_simp; done) | (simp (disch := (first | omega | (simp; done) | (simp; omega))) [go_sem, *]; done)), by (first | rfl | assumption | (go_simp; done) | (simp (disch := (first | omega | (simp; done) | (simp; omega))) [go_sem, *]; done)), by (first | rfl | assumption | (go_simp; done) | (simp (disch := (first | omega | (simp; done) | (simp; omega))) [go_sem, *]; done)), by (first | rfl | assumption | (go_simp; done) | (simp (disch := (first | omega | (simp; done) | (simp; omega))) [go_sem, *]; done)), by (first | rfl | assumption | (go_simp; done) | (simp (disch := (first | omega | (simp; done) | (simp; omega))) [go_sem, *]; done))⟩, by (repeat' (first | (with_reducible exact Below.refl _ _) | (with_reducible refine Below.alloc ?_ ?_ _) | (with_reducible refine Below.drew ?_) | (with_reducible refine Below.setCell ?_ ?_ _) | (with_reducible refine chain ?_ (by assumption) ?_) | omega | (simp; done) | (simp; omega)))⟩

set_option maxRecDepth 100000 in
set_option maxHeartbeats 2000000 in
theorem dof_f (a b c d e : Int) (w : World) (hx : vr a b c d = false) :
    Calls Try.prog 130 #[rg a b c d, .int .i64 e] w fun ee w' => ee = .returned (dt 0 0 0 0 0 false) ∧ Below w.heap.size w w' := by
  have HX := hid hx
  clear hx
  go_enter Try.func130, Try.ntmps130
  go_wp2_with (first | (go_at_call 172; ((with_reducible refine (iv_f _ _ _ _ _ HX.out).mono ?_); rintro ee w1 ⟨rfl, hb1⟩; obtain ⟨hc1, hf1, _⟩ := bcell hb1; have hz1 := hb1.size; (try simp at hz1); (try have hx10 : w.heap.size < w1.heap.size := (by omega)); (try have hx11 : w.heap.size + 1 < w1.heap.size := (by omega)); (try have hx12 : w.heap.size + 1 + 1 < w1.heap.size := (by omega)); (try have hx13 : w.heap.size + 1 + 1 + 1 < w1.heap.size := (by omega)))) | go_in)
  refine bodyPost_ret (v := dt 0 0 0 0 0 false) (by first | (simp [results, Try.results130, go_sem, *]; done) | (simp (disch := (first | omega | (simp; done) | (simp; omega))) [results, Try.results130, go_sem, *]; done) | (simp only [results, Try.results130]; go_simp; done)) rfl ⟨rfl, ?_⟩
  repeat' (first | (with_reducible exact Below.refl _ _) | (with_reducible refine Below.alloc ?_ ?_ _) | (with_reducible refine Below.drew ?_) | (with_reducible refine Below.setCell ?_ ?_ _) | (with_reducible refine chain ?_ (by assumption) ?_) | omega | (simp; done) | (simp; omega))

set_option maxRecDepth 100000 in
set_option maxHeartbeats 2000000 in
theorem dof_n (a b c d e : Int) (w : World) (hx : vr a b c d = true) (he : e < 0) :
    Calls Try.prog 130 #[rg a b c d, .int .i64 e] w fun ee w' => ee = .returned (dt 0 0 0 0 0 false) ∧ Below w.heap.size w w' := by
  have he2 : e < 0 := he
  have HX := hid hx
  clear hx
  have HE := hid he
  clear he
  go_enter Try.func130, Try.ntmps130
  go_wp2_with (first | (go_at_call 172; ((with_reducible refine (iv_t _ _ _ _ _ HX.out).mono ?_); rintro ee w1 ⟨rfl, hb1⟩; obtain ⟨hc1, hf1, _⟩ := bcell hb1; have hz1 := hb1.size; (try simp at hz1); (try have hx10 : w.heap.size < w1.heap.size := (by omega)); (try have hx11 : w.heap.size + 1 < w1.heap.size := (by omega)); (try have hx12 : w.heap.size + 1 + 1 < w1.heap.size := (by omega)); (try have hx13 : w.heap.size + 1 + 1 + 1 < w1.heap.size := (by omega)))) | go_in)
  refine bodyPost_ret (v := dt 0 0 0 0 0 false) (by first | (simp [results, Try.results130, go_sem, *]; done) | (simp (disch := (first | omega | (simp; done) | (simp; omega))) [results, Try.results130, go_sem, *]; done) | (simp only [results, Try.results130]; go_simp; done)) rfl ⟨rfl, ?_⟩
  repeat' (first | (with_reducible exact Below.refl _ _) | (with_reducible refine Below.alloc ?_ ?_ _) | (with_reducible refine Below.drew ?_) | (with_reducible refine Below.setCell ?_ ?_ _) | (with_reducible refine chain ?_ (by assumption) ?_) | omega | (simp; done) | (simp; omega))

set_option maxRecDepth 100000 in
set_option maxHeartbeats 2000000 in
theorem dof_m (a b c d e : Int) (w : World) (hx : vr a b c d = true) (he : 60 < e) :
    Calls Try.prog 130 #[rg a b c d, .int .i64 e] w fun ee w' => ee = .returned (dt 0 0 0 0 0 false) ∧ Below w.heap.size w w' := by
  have he2 : 60 < e := he
  have he3 : ¬ (e < 0) := by omega
  have HX := hid hx
  clear hx
  have HE := hid he
  clear he
  go_enter Try.func130, Try.ntmps130
  go_wp2_with (first | (go_at_call 172; ((with_reducible refine (iv_t _ _ _ _ _ HX.out).mono ?_); rintro ee w1 ⟨rfl, hb1⟩; obtain ⟨hc1, hf1, _⟩ := bcell hb1; have hz1 := hb1.size; (try simp at hz1); (try have hx10 : w.heap.size < w1.heap.size := (by omega)); (try have hx11 : w.heap.size + 1 < w1.heap.size := (by omega)); (try have hx12 : w.heap.size + 1 + 1 < w1.heap.size := (by omega)); (try have hx13 : w.heap.size + 1 + 1 + 1 < w1.heap.size := (by omega)))) | go_in)
  refine bodyPost_ret (v := dt 0 0 0 0 0 false) (by first | (simp [results, Try.results130, go_sem, *]; done) | (simp (disch := (first | omega | (simp; done) | (simp; omega))) [results, Try.results130, go_sem, *]; done) | (simp only [results, Try.results130]; go_simp; done)) rfl ⟨rfl, ?_⟩
  repeat' (first | (with_reducible exact Below.refl _ _) | (with_reducible refine Below.alloc ?_ ?_ _) | (with_reducible refine Below.drew ?_) | (with_reducible refine Below.setCell ?_ ?_ _) | (with_reducible refine chain ?_ (by assumption) ?_) | omega | (simp; done) | (simp; omega))
end Go.Proofs.Ytofclfgaekjonaa
namespace Go.Proofs.Ytofclfgaekjonaa
open Go.RowKit RM
set_option linter.unusedVariables false
set_option linter.unusedSimpArgs false
attribute [local irreducible] World.setCell

set_option maxRecDepth 100000 in
set_option maxHeartbeats 2000000 in
theorem ivd_t (a b c d : Int) (e : Nat) (w : World) (hx : vr a b c d = true) (he : e ≤ 60) (hl : low e a b c d = ⟨a, b, c, d, e⟩) :
    Calls Try.prog 71 #[dy a b c d e] w fun ee w' => ee = .returned (.bool true) ∧ Below w.heap.size w w' := by
  have HX := hid hx
  clear hx
  have HE := hid he
  clear he
  have HL := hid hl
  clear hl
  go_enter Try.func71, Try.ntmps71
  go_wp2_with (first | (go_at_call 130; ((with_reducible refine (dof_t _ _ _ _ _ _ _ _ _ _ _ HX.out HE.out HL.out).mono ?_); rintro ee w1 ⟨rfl, hb1⟩; obtain ⟨hc1, hf1, _⟩ := bcell hb1; have hz1 := hb1.size; (try simp at hz1); (try have hx10 : w.heap.size < w1.heap.size := (by omega)); (try have hx11 : w.heap.size + 1 < w1.heap.size := (by omega)); (try have hx12 : w.heap.size + 1 + 1 < w1.heap.size := (by omega)); (try have hx13 : w.heap.size + 1 + 1 + 1 < w1.heap.size := (by omega)))) | go_in)
  go_ret
  refine ⟨rfl, ?_⟩
  repeat' (first | (with_reducible exact Below.refl _ _) | (with_reducible refine Below.alloc ?_ ?_ _) | (with_reducible refine Below.drew ?_) | (with_reducible refine Below.setCell ?_ ?_ _) | (with_reducible refine chain ?_ (by assumption) ?_) | omega | (simp; done) | (simp; omega))

set_option maxRecDepth 100000 in
set_option maxHeartbeats 2000000 in
theorem ivd_e (a b c d : Int) (e : Nat) (A B C D : Int) (E : Nat) (w : World) (hx : vr a b c d = true) (he : e ≤ 60) (hl : low e a b c d = ⟨A, B, C, D, E⟩) (hne0 : E ≠ e) :
    Calls Try.prog 71 #[dy a b c d e] w fun ee w' => ee = .returned (.bool false) ∧ Below w.heap.size w w' := by
  have HX := hid hx
  clear hx
  have HE := hid he
  clear he
  have HL := hid hl
  clear hl
  have hne : ¬ (E = e) := hne0
  have hne2 : ¬ ((E : Int) = (e : Int)) := by omega
  have hne3 : ((E : Int) == (e : Int)) = false := by simpa using hne2
  clear hne0
  go_enter Try.func71, Try.ntmps71
  go_wp2_with (first | (go_at_call 130; ((with_reducible refine (dof_t _ _ _ _ _ _ _ _ _ _ _ HX.out HE.out HL.out).mono ?_); rintro ee w1 ⟨rfl, hb1⟩; obtain ⟨hc1, hf1, _⟩ := bcell hb1; have hz1 := hb1.size; (try simp at hz1); (try have hx10 : w.heap.size < w1.heap.size := (by omega)); (try have hx11 : w.heap.size + 1 < w1.heap.size := (by omega)); (try have hx12 : w.heap.size + 1 + 1 < w1.heap.size := (by omega)); (try have hx13 : w.heap.size + 1 + 1 + 1 < w1.heap.size := (by omega)))) | go_in)
  go_ret
  refine ⟨rfl, ?_⟩
  repeat' (first | (with_reducible exact Below.refl _ _) | (with_reducible refine Below.alloc ?_ ?_ _) | (with_reducible refine Below.drew ?_) | (with_reducible refine Below.setCell ?_ ?_ _) | (with_reducible refine chain ?_ (by assumption) ?_) | omega | (simp; done) | (simp; omega))

set_option maxRecDepth 100000 in
set_option maxHeartbeats 2000000 in
theorem ivd_f (a b c d e : Int) (w : World) (hx : vr a b c d = false) :
    Calls Try.prog 71 #[dy a b c d e] w fun ee w' => ee = .returned (.bool false) ∧ Below w.heap.size w w' := by
  have HX := hid hx
  clear hx
  go_enter Try.func71, Try.ntmps71
  go_wp2_with (first | (go_at_call 130; ((with_reducible refine (dof_f _ _ _ _ _ _ HX.out).mono ?_); rintro ee w1 ⟨rfl, hb1⟩; obtain ⟨hc1, hf1, _⟩ := bcell hb1; have hz1 := hb1.size; (try simp at hz1); (try have hx10 : w.heap.size < w1.heap.size := (by omega)); (try have hx11 : w.heap.size + 1 < w1.heap.size := (by omega)); (try have hx12 : w.heap.size + 1 + 1 < w1.heap.size := (by omega)); (try have hx13 : w.heap.size + 1 + 1 + 1 < w1.heap.size := (by omega)))) | go_in)
  go_ret
  refine ⟨rfl, ?_⟩
  repeat' (first | (with_reducible exact Below.refl _ _) | (with_reducible refine Below.alloc ?_ ?_ _) | (with_reducible refine Below.drew ?_) | (with_reducible refine Below.setCell ?_ ?_ _) | (with_reducible refine chain ?_ (by assumption) ?_) | omega | (simp; done) | (simp; omega))

set_option maxRecDepth 100000 in
set_option maxHeartbeats 2000000 in
theorem ivd_n (a b c d e : Int) (w : World) (hx : vr a b c d = true) (he : e < 0) :
    Calls Try.prog 71 #[dy a b c d e] w fun ee w' => ee = .returned (.bool false) ∧ Below w.heap.size w w' := by
  have HX := hid hx
  clear hx
  have HE := hid he
  clear he
  go_enter Try.func71, Try.ntmps71
  go_wp2_with (first | (go_at_call 130; ((with_reducible refine (dof_n _ _ _ _ _ _ HX.out HE.out).mono ?_); rintro ee w1 ⟨rfl, hb1⟩; obtain ⟨hc1, hf1, _⟩ := bcell hb1; have hz1 := hb1.size; (try simp at hz1); (try have hx10 : w.heap.size < w1.heap.size := (by omega)); (try have hx11 : w.heap.size + 1 < w1.heap.size := (by omega)); (try have hx12 : w.heap.size + 1 + 1 < w1.heap.size := (by omega)); (try have hx13 : w.heap.size + 1 + 1 + 1 < w1.heap.size := (by omega)))) | go_in)
  go_ret
  refine ⟨rfl, ?_⟩
  repeat' (first | (with_reducible exact Below.refl _ _) | (with_reducible refine Below.alloc ?_ ?_ _) | (with_reducible refine Below.drew ?_) | (with_reducible refine Below.setCell ?_ ?_ _) | (with_reducible refine chain ?_ (by assumption) ?_) | omega | (simp; done) | (simp; omega))

set_option maxRecDepth 100000 in
set_option maxHeartbeats 2000000 in
theorem ivd_m (a b c d e : Int) (w : World) (hx : vr a b c d = true) (he : 60 < e) :
    Calls Try.prog 71 #[dy a b c d e] w fun ee w' => ee = .returned (.bool false) ∧ Below w.heap.size w w' := by
  have HX := hid hx
  clear hx
  have HE := hid he
  clear he
  go_enter Try.func71, Try.ntmps71
  go_wp2_with (first | (go_at_call 130; ((with_reducible refine (dof_m _ _ _ _ _ _ HX.out HE.out).mono ?_); rintro ee w1 ⟨rfl, hb1⟩; obtain ⟨hc1, hf1, _⟩ := bcell hb1; have hz1 := hb1.size; (try simp at hz1); (try have hx10 : w.heap.size < w1.heap.size := (by omega)); (try have hx11 : w.heap.size + 1 < w1.heap.size := (by omega)); (try have hx12 : w.heap.size + 1 + 1 < w1.heap.size := (by omega)); (try have hx13 : w.heap.size + 1 + 1 + 1 < w1.heap.size := (by omega)))) | go_in)
  go_ret
  refine ⟨rfl, ?_⟩
  repeat' (first | (with_reducible exact Below.refl _ _) | (with_reducible refine Below.alloc ?_ ?_ _) | (with_reducible refine Below.drew ?_) | (with_reducible refine Below.setCell ?_ ?_ _) | (with_reducible refine chain ?_ (by assumption) ?_) | omega | (simp; done) | (simp; omega))

theorem ivd_v {a b c d : Int} {e : Nat} (w : World) (h : vd a b c d e = true) :
    Calls Try.prog 71 #[dy a b c d e] w fun ee w' => ee = .returned (.bool true) ∧ Below w.heap.size w w' := by
  obtain ⟨h1, h2, h3⟩ := vd_iff.1 h
  exact ivd_t a b c d e w h1 h2 (low_fix h3)
theorem ivd_no {a b c d e : Int} (w : World) (h : vi a b c d e = false) :
    Calls Try.prog 71 #[dy a b c d e] w fun ee w' => ee = .returned (.bool false) ∧ Below w.heap.size w w' := by
  cases hx : vr a b c d
  · exact ivd_f a b c d e w hx
  · by_cases h0 : e < 0
    · exact ivd_n a b c d e w hx h0
    · by_cases h1 : 60 < e
      · exact ivd_m a b c d e w hx h1
      · obtain ⟨n, rfl⟩ : ∃ n : Nat, e = n := ⟨e.toNat, by omega⟩
        rw [vi_nat] at h
        have hn : ¬ (n = 0 ∨ ev2 a b c d = false) := fun hh => by rw [vd_iff.2 ⟨hx, by omega, hh⟩] at h; cases h
        rcases hq : low n a b c d with ⟨A, B, C, D, E⟩
        exact ivd_e a b c d n A B C D E w hx (by omega) hq (low_ne hx hn hq)
end Go.Proofs.Ytofclfgaekjonaa
namespace Go.Proofs.Ytofclfgaekjonaa
open Go.RowKit RM
set_option linter.unusedVariables false
set_option linter.unusedSimpArgs false
attribute [local irreducible] World.setCell

/-- a dyadic number, valid or not -/
structure D5 where
  a : Int
  b : Int
  c : Int
  d : Int
  e : Int
abbrev D5.v (x : D5) : Value := dy x.a x.b x.c x.d x.e
def D5.ok (x : D5) : Bool := vi x.a x.b x.c x.d x.e
def z5 : D5 := ⟨0, 0, 0, 0, 0⟩
def one5 : D5 := ⟨1, 0, 0, 0, 0⟩
def ofDy (x : Dy) : D5 := ⟨x.a, x.b, x.c, x.d, x.e⟩
theorem z5_ok : z5.ok = true := by decide
theorem ok_nat {x : D5} (h : x.ok = true) : ∃ n : Nat, x.e = n ∧ vd x.a x.b x.c x.d n = true := by
  rcases vi_cases (a := x.a) (b := x.b) (c := x.c) (d := x.d) (e := x.e) with k | ⟨n, h1, h2⟩
  · unfold D5.ok at h; rw [k] at h; cases h
  · exact ⟨n, h1, h2⟩
theorem ok_low {e : Nat} {a b c d : Int} (hx : vr a b c d = true) (he : e ≤ 60) : (ofDy (low e a b c d)).ok = true := by
  rcases hl : low e a b c d with ⟨A, B, C, D, E⟩
  have := low_vd hx he hl
  unfold D5.ok ofDy
  simp only [vi_nat, this]
attribute [irreducible] D5.ok
end Go.Proofs.Ytofclfgaekjonaa
namespace Go.Proofs.Ytofclfgaekjonaa
open Go.RowKit RM
set_option linter.unusedVariables false
set_option linter.unusedSimpArgs false
attribute [local irreducible] World.setCell
def rres : Option R4 → Value
  | some r => rt r.a r.b r.c r.d true
  | none => rt 0 0 0 0 false

set_option maxRecDepth 100000 in
set_option maxHeartbeats 4000000 in
theorem rsn (a b c d : Int) (n : Nat) (R : Option R4) (w : World) (hx : vr a b c d = true) (he : n ≤ 60) (hl : rais n a b c d = R) :
    Calls Try.prog 176 #[rg a b c d, .int .i64 (n : Int)] w fun ee w' => ee = .returned (rres R) ∧ Below w.heap.size w w' := by
  have HX := hid hx
  clear hx
  have HL := hid hl
  clear hl
  have he3 : (n : Int) ≤ 60 := by omega
  go_enter Try.func176, Try.ntmps176
  go_wp2_with (fail)
  go_loopg [9] n (fun k s9 wr => ∃ (a b c d : Int) (j : Nat), j + k = n ∧ s9 = .int .i64 (j : Int) ∧ Hid (vr a b c d = true ∧ rais k a b c d = R) ∧ C4 wr w.heap.size a b c d ∧ C4 wr (w.heap.size + 1) 0 0 0 0 ∧ Below w.heap.size w wr)
  case atStart => exact ⟨a, b, c, d, 0, by omega, by first | rfl | simp, ⟨HX.out, HL.out⟩, ⟨by (first | rfl | assumption | (go_simp; done) | (simp (disch := (first | omega | (simp; done) | (simp; omega))) [go_sem, *]; done)), by (first | rfl | assumption | (go_simp; done) | (simp (disch := (first | omega | (simp; done) | (simp; omega))) [go_sem, *]; done)), by (first | rfl | assumption | (go_simp; done) | (simp (disch := (first | omega | (simp; done) | (simp; omega))) [go_sem, *]; done)), by (first | rfl | assumption | (go_simp; done) | (simp (disch := (first | omega | (simp; done) | (simp; omega))) [go_sem, *]; done)), by (first | rfl | assumption | (go_simp; done) | (simp (disch := (first | omega | (simp; done) | (simp; omega))) [go_sem, *]; done)), by (first | rfl | assumption | (go_simp; done) | (simp (disch := (first | omega | (simp; done) | (simp; omega))) [go_sem, *]; done)), by (first | rfl | assumption | (go_simp; done) | (simp (disch := (first | omega | (simp; done) | (simp; omega))) [go_sem, *]; done)), by (first | rfl | assumption | (go_simp; done) | (simp (disch := (first | omega | (simp; done) | (simp; omega))) [go_sem, *]; done))⟩, ⟨by (first | rfl | assumption | (go_simp; done) | (simp (disch := (first | omega | (simp; done) | (simp; omega))) [go_sem, *]; done)), by (first | rfl | assumption | (go_simp; done) | (simp (disch := (first | omega | (simp; done) | (simp; omega))) [go_sem, *]; done)), by (first | rfl | assumption | (go_simp; done) | (simp (disch := (first | omega | (simp; done) | (simp; omega))) [go_sem, *]; done)), by (first | rfl | assumption | (go_simp; done) | (simp (disch := (first | omega | (simp; done) | (simp; omega))) [go_sem, *]; done)), by (first | rfl | assumption | (go_simp; done) | (simp (disch := (first | omega | (simp; done) | (simp; omega))) [go_sem, *]; done)), by (first | rfl | assumption | (go_simp; done) | (simp (disch := (first | omega | (simp; done) | (simp; omega))) [go_sem, *]; done)), by (first | rfl | assumption | (go_simp; done) | (simp (disch := (first | omega | (simp; done) | (simp; omega))) [go_sem, *]; done)), by (first | rfl | assumption | (go_simp; done) | (simp (disch := (first | omega | (simp; done) | (simp; omega))) [go_sem, *]; done))⟩, by (repeat' (first | (with_reducible exact Below.refl _ _) | (with_reducible refine Below.alloc ?_ ?_ _) | (with_reducible refine Below.drew ?_) | (with_reducible refine Below.setCell ?_ ?_ _) | (with_reducible refine chain ?_ (by assumption) ?_) | omega | (simp; done) | (simp; omega)))⟩
  case round =>
    obtain ⟨a', b', c', d', j, hk, rfl, HR, hC4, hC5, hB⟩ := hrel
    have hl4 := hC4.lt
    have hl5 := hC5.lt
    obtain ⟨q0, q1, q2, q3, q4, q5, q6, q7⟩ := hC4
    obtain ⟨r0, r1, r2, r3, r4, r5, r6, r7⟩ := hC5
    cases gk with
    | zero =>
      obtain rfl : j = n := by omega
      go_wp2_with (fail)
      have HR2 := HR.out.2
      simp only [rais] at HR2
      subst HR2
      refine bodyPost_ret (v := rt a' b' c' d' true) (by first | (simp [results, Try.results176, go_sem, *]; done) | (simp (disch := (first | omega | (simp; done) | (simp; omega))) [results, Try.results176, go_sem, *]; done) | (simp only [results, Try.results176]; go_simp; done)) rfl ⟨by first | rfl | simp, ?_⟩
      repeat' (first | (with_reducible exact Below.refl _ _) | (with_reducible refine Below.alloc ?_ ?_ _) | (with_reducible refine Below.drew ?_) | (with_reducible refine Below.setCell ?_ ?_ _) | (with_reducible refine chain ?_ (by assumption) ?_) | omega | (simp; done) | (simp; omega))
    | succ m =>
      have hjn : j < n := by omega
      have hj60 : (j : Int) ≤ 60 := by omega
      cases hv : vr (b' - d') (a' + c') (b' + d') (c' - a')
      · have HV := hid hv
        clear hv
        go_wp2_with (first | (go_at_call 201; ((with_reducible refine (root_i_o _ _ _ _ _ HR.out.1 HV.out).mono ?_); rintro ee w1 ⟨rfl, hb1⟩; obtain ⟨hc1, hf1, _⟩ := bcell hb1; have hz1 := hb1.size; (try simp at hz1); (try have ho1a : w.heap.size < w1.heap.size := (by omega)); (try have ho1b : w.heap.size + 1 < w1.heap.size := (by omega)))) | fail)
        have HR2 := HR.out.2
        rw [rais, if_neg (by rw [HV.out]; decide)] at HR2
        subst HR2
        refine bodyPost_ret (v := rt 0 0 0 0 false) (by first | (simp [results, Try.results176, go_sem, *]; done) | (simp (disch := (first | omega | (simp; done) | (simp; omega))) [results, Try.results176, go_sem, *]; done) | (simp only [results, Try.results176]; go_simp; done)) rfl ⟨by first | rfl | simp, ?_⟩
        repeat' (first | (with_reducible exact Below.refl _ _) | (with_reducible refine Below.alloc ?_ ?_ _) | (with_reducible refine Below.drew ?_) | (with_reducible refine Below.setCell ?_ ?_ _) | (with_reducible refine chain ?_ (by assumption) ?_) | omega | (simp; done) | (simp; omega))
      · have HV := hid hv
        clear hv
        go_wp2_with (first | (go_at_call 201; ((with_reducible refine (root_i_t _ _ _ _ _ HR.out.1 HV.out).mono ?_); rintro ee w1 ⟨rfl, hb1⟩; obtain ⟨hc1, hf1, _⟩ := bcell hb1; have hz1 := hb1.size; (try simp at hz1); (try have ho1a : w.heap.size < w1.heap.size := (by omega)); (try have ho1b : w.heap.size + 1 < w1.heap.size := (by omega)))) | fail)
        go_roundg m
        case measure => omega
        case rel =>
          have HR2 := HR.out.2
          rw [rais, if_pos HV.out] at HR2
          exact ⟨_, _, _, _, j + 1, by omega, by first | rfl | (simp; done) | go_num, ⟨HV.out, HR2⟩, ⟨by (first | rfl | assumption | (go_simp; done) | (simp (disch := (first | omega | (simp; done) | (simp; omega))) [go_sem, *]; done)), by (first | rfl | assumption | (go_simp; done) | (simp (disch := (first | omega | (simp; done) | (simp; omega))) [go_sem, *]; done)), by (first | rfl | assumption | (go_simp; done) | (simp (disch := (first | omega | (simp; done) | (simp; omega))) [go_sem, *]; done)), by (first | rfl | assumption | (go_simp; done) | (simp (disch := (first | omega | (simp; done) | (simp; omega))) [go_sem, *]; done)), by (first | rfl | assumption | (go_simp; done) | (simp (disch := (first | omega | (simp; done) | (simp; omega))) [go_sem, *]; done)), by (first | rfl | assumption | (go_simp; done) | (simp (disch := (first | omega | (simp; done) | (simp; omega))) [go_sem, *]; done)), by (first | rfl | assumption | (go_simp; done) | (simp (disch := (first | omega | (simp; done) | (simp; omega))) [go_sem, *]; done)), by (first | rfl | assumption | (go_simp; done) | (simp (disch := (first | omega | (simp; done) | (simp; omega))) [go_sem, *]; done))⟩, ⟨by (first | rfl | assumption | (go_simp; done) | (simp (disch := (first | omega | (simp; done) | (simp; omega))) [go_sem, *]; done)), by (first | rfl | assumption | (go_simp; done) | (simp (disch := (first | omega | (simp; done) | (simp; omega))) [go_sem, *]; done)), by (first | rfl | assumption | (go_simp; done) | (simp (disch := (first | omega | (simp; done) | (simp; omega))) [go_sem, *]; done)), by (first | rfl | assumption | (go_simp; done) | (simp (disch := (first | omega | (simp; done) | (simp; omega))) [go_sem, *]; done)), by (first | rfl | assumption | (go_simp; done) | (simp (disch := (first | omega | (simp; done) | (simp; omega))) [go_sem, *]; done)), by (first | rfl | assumption | (go_simp; done) | (simp (disch := (first | omega | (simp; done) | (simp; omega))) [go_sem, *]; done)), by (first | rfl | assumption | (go_simp; done) | (simp (disch := (first | omega | (simp; done) | (simp; omega))) [go_sem, *]; done)), by (first | rfl | assumption | (go_simp; done) | (simp (disch := (first | omega | (simp; done) | (simp; omega))) [go_sem, *]; done))⟩, by (repeat' (first | (with_reducible exact Below.refl _ _) | (with_reducible refine Below.alloc ?_ ?_ _) | (with_reducible refine Below.drew ?_) | (with_reducible refine Below.setCell ?_ ?_ _) | (with_reducible refine chain ?_ (by assumption) ?_) | omega | (simp; done) | (simp; omega)))⟩
end Go.Proofs.Ytofclfgaekjonaa
