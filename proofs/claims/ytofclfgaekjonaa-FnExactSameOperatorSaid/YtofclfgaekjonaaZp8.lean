/- LowI, DyV, MxD, Bad, SubA, MulS, DyC, HeldB, RingS -/
import Derived.Test.YtofclfgaekjonaaZp7
import Derived.Deep.LoopGhost
import Derived.Test.YtofclfgaekjonaaZp1
import Derived.Deep.RegionWith
import Derived.Deep.RegionHeld3
namespace Go.Proofs.Ytofclfgaekjonaa
open Go.RowKit RM
set_option linter.unusedVariables false
set_option linter.unusedSimpArgs false
attribute [local irreducible] World.setCell

theorem tm2'' (x : Int) : (x.tmod 2 == 0) = true ↔ x % 2 = 0 := by
  rw [beq_iff_eq, ← Int.dvd_iff_tmod_eq_zero]; omega
theorem di_t {a b c d : Int} (w : World) (hx : vr a b c d = true) (h : ev2 a b c d = true) :
    Calls Try.prog 173 #[rg a b c d] w fun ee w' => ee = .returned (rt ((b - d).tdiv 2) ((a + c).tdiv 2) ((b + d).tdiv 2) ((c - a).tdiv 2) true) ∧ Below w.heap.size w w' := by
  simp only [ev2, Bool.and_eq_true, tm2''] at h
  obtain ⟨k1, k2⟩ := h
  refine droot_i_t a b c d w hx ?_ (vr_half hx)
  simp only [Bool.and_eq_true]
  exact ⟨(tm2'' _).2 (by omega), (tm2'' _).2 (by omega), (tm2'' _).2 (by omega), (tm2'' _).2 (by omega)⟩
theorem di_f {a b c d : Int} (w : World) (hx : vr a b c d = true) (h : ev2 a b c d = false) :
    Calls Try.prog 173 #[rg a b c d] w fun ee w' => ee = .returned (rt 0 0 0 0 false) ∧ Below w.heap.size w w' := by
  refine droot_i_e a b c d w hx ?_
  cases k1 : ((a + c).tmod 2 == 0)
  · simp
  · unfold ev2 at h; rw [k1, Bool.true_and] at h; rw [h]; simp

set_option maxRecDepth 100000 in
set_option maxHeartbeats 4000000 in
theorem dof_t (a b c d : Int) (e : Nat) (A B C D : Int) (E : Nat) (w : World) (hx : vr a b c d = true) (he : e ≤ 60) (hl : low e a b c d = ⟨A, B, C, D, E⟩) :
    Calls Try.prog 130 #[rg a b c d, .int .i64 (e : Int)] w fun ee w' => ee = .returned (dt A B C D E true) ∧ Below w.heap.size w w' := by
  have HX := hid hx
  clear hx
  have HL := hid hl
  clear hl
  have he1 : ¬ ((e : Int) < 0) := by omega
  have he2 : ¬ ((60 : Int) < (e : Int)) := by omega
  have he3 : (e : Int) ≤ 60 := by omega
  go_enter Try.func130, Try.ntmps130
  go_wp2_with (first | (go_at_call 172; ((with_reducible refine (iv_t _ _ _ _ _ HX.out).mono ?_); rintro ee w1 ⟨rfl, hb1⟩; obtain ⟨hc1, hf1, _⟩ := bcell hb1; have hz1 := hb1.size; (try simp at hz1); (try have hx10 : w.heap.size < w1.heap.size := (by omega)); (try have hx11 : w.heap.size + 1 < w1.heap.size := (by omega)); (try have hx12 : w.heap.size + 1 + 1 < w1.heap.size := (by omega)); (try have hx13 : w.heap.size + 1 + 1 + 1 < w1.heap.size := (by omega)))) | fail)
  go_loopg [1] e (fun k s1 wr => ∃ a b c d : Int, k ≤ e ∧ s1 = .int .i64 (k : Int) ∧ Hid (vr a b c d = true ∧ low k a b c d = ⟨A, B, C, D, E⟩) ∧ C4 wr w.heap.size a b c d ∧ C5 wr (w.heap.size + 1) 0 0 0 0 0 ∧ Below w.heap.size w wr)
  case atStart => exact ⟨a, b, c, d, Nat.le_refl _, rfl, ⟨HX.out, HL.out⟩, ⟨by (first | rfl | assumption | (go_simp; done) | (simp (disch := (first | omega | (simp; done) | (simp; omega))) [go_sem, *]; done)), by (first | rfl | assumption | (go_simp; done) | (simp (disch := (first | omega | (simp; done) | (simp; omega))) [go_sem, *]; done)), by (first | rfl | assumption | (go_simp; done) | (simp (disch := (first | omega | (simp; done) | (simp; omega))) [go_sem, *]; done)), by (first | rfl | assumption | (go_simp; done) | (simp (disch := (first | omega | (simp; done) | (simp; omega))) [go_sem, *]; done)), by (first | rfl | assumption | (go_simp; done) | (simp (disch := (first | omega | (simp; done) | (simp; omega))) [go_sem, *]; done)), by (first | rfl | assumption | (go_simp; done) | (simp (disch := (first | omega | (simp; done) | (simp; omega))) [go_sem, *]; done)), by (first | rfl | assumption | (go_simp; done) | (simp (disch := (first | omega | (simp; done) | (simp; omega))) [go_sem, *]; done)), by (first | rfl | assumption | (go_simp; done) | (simp (disch := (first | omega | (simp; done) | (simp; omega))) [go_sem, *]; done))⟩, ⟨by (first | rfl | assumption | (go_simp; done) | (simp (disch := (first | omega | (simp; done) | (simp; omega))) [go_sem, *]; done)), by (first | rfl | assumption | (go_simp; done) | (simp (disch := (first | omega | (simp; done) | (simp; omega))) [go_sem, *]; done)), by (first | rfl | assumption | (go_simp; done) | (simp (disch := (first | omega | (simp; done) | (simp; omega))) [go_sem, *]; done)), by (first | rfl | assumption | (go_simp; done) | (simp (disch := (first | omega | (simp; done) | (simp; omega))) [go_sem, *]; done)), by (first | rfl | assumption | (go_simp; done) | (simp (disch := (first | omega | (simp; done) | (simp; omega))) [go_sem, *]; done)), by (first | rfl | assumption | (go_simp; done) | (simp (disch := (first | omega | (simp; done) | (simp; omega))) [go_sem, *]; done)), by (first | rfl | assumption | (go_simp; done) | (simp (disch := (first | omega | (simp; done) | (simp; omega))) [go_sem, *]; done)), by (first | rfl | assumption | (go_simp; done) | (simp (disch := (first | omega | (simp; done) | (simp; omega))) [go_sem, *]; done)), by (first | rfl | assumption | (go_simp; done) | (simp (disch := (first | omega | (simp; done) | (simp; omega))) [go_sem, *]; done)), by (first | rfl | assumption | (go_simp; done) | (simp (disch := (first | omega | (simp; done) | (simp; omega))) [go_sem, *]; done))⟩, by (repeat' (first | (with_reducible exact Below.refl _ _) | (with_reducible refine Below.alloc ?_ ?_ _) | (with_reducible refine Below.drew ?_) | (with_reducible refine Below.setCell ?_ ?_ _) | (with_reducible refine chain ?_ (by assumption) ?_) | omega | (simp; done) | (simp; omega)))⟩
  case round =>
    clear hc1 hf1
    obtain ⟨a', b', c', d', hk, rfl, HR, hC4, hC5, hB⟩ := hrel
    have hl4 := hC4.lt
    have hl5 := hC5.lt
    obtain ⟨q0, q1, q2, q3, q4, q5, q6, q7⟩ := hC4
    obtain ⟨r0, r1, r2, r3, r4, r5, r6, r7, r8, r9⟩ := hC5
    cases gk with
    | zero =>
      go_wp2_with (fail)
      have HR2 := HR.out.2
      simp only [low, Dy.mk.injEq] at HR2
      obtain ⟨rfl, rfl, rfl, rfl, rfl⟩ := HR2
      refine bodyPost_ret (v := dt a' b' c' d' 0 true) (by first | (simp [results, Try.results130, go_sem, *]; done) | (simp (disch := (first | omega | (simp; done) | (simp; omega))) [results, Try.results130, go_sem, *]; done) | (simp only [results, Try.results130]; go_simp; done)) rfl ⟨by first | rfl | simp, ?_⟩
      repeat' (first | (with_reducible exact Below.refl _ _) | (with_reducible refine Below.alloc ?_ ?_ _) | (with_reducible refine Below.drew ?_) | (with_reducible refine Below.setCell ?_ ?_ _) | (with_reducible refine chain ?_ (by assumption) ?_) | omega | (simp; done) | (simp; omega))
    | succ n =>
      have hn0 : (0 : Int) < (n : Int) + 1 := by omega
      have hn1 : (n : Int) ≤ 60 := by omega
      cases hv : ev2 a' b' c' d'
      · have HV := hid hv
        clear hv
        go_wp2_with (first | (go_at_call 173; ((with_reducible refine (di_f _ HR.out.1 HV.out).mono ?_); rintro ee w2 ⟨rfl, hb2⟩; obtain ⟨hc2, hf2, _⟩ := bcell hb2; have hz2 := hb2.size; (try simp at hz2); (try have ho2a : w.heap.size < w2.heap.size := (by omega)); (try have ho2b : w.heap.size + 1 < w2.heap.size := (by omega)))) | fail)
        have HR2 := HR.out.2
        rw [low, if_neg (by rw [HV.out]; decide)] at HR2
        simp only [Dy.mk.injEq] at HR2
        obtain ⟨rfl, rfl, rfl, rfl, rfl⟩ := HR2
        refine bodyPost_ret (v := dt a' b' c' d' ((n : Int) + 1) true) (by first | (simp [results, Try.results130, go_sem, *]; done) | (simp (disch := (first | omega | (simp; done) | (simp; omega))) [results, Try.results130, go_sem, *]; done) | (simp only [results, Try.results130]; go_simp; done)) rfl ⟨by first | rfl | simp, ?_⟩
        repeat' (first | (with_reducible exact Below.refl _ _) | (with_reducible refine Below.alloc ?_ ?_ _) | (with_reducible refine Below.drew ?_) | (with_reducible refine Below.setCell ?_ ?_ _) | (with_reducible refine chain ?_ (by assumption) ?_) | omega | (simp; done) | (simp; omega))
      · have HV := hid hv
        clear hv
        go_wp2_with (first | (go_at_call 173; ((with_reducible refine (di_t _ HR.out.1 HV.out).mono ?_); rintro ee w2 ⟨rfl, hb2⟩; obtain ⟨hc2, hf2, _⟩ := bcell hb2; have hz2 := hb2.size; (try simp at hz2); (try have ho2a : w.heap.size < w2.heap.size := (by omega)); (try have ho2b : w.heap.size + 1 < w2.heap.size := (by omega)))) | fail)
        go_roundg n
        case measure => omega
        case rel =>
          have HR2 := HR.out.2
          rw [low, if_pos HV.out] at HR2
          exact ⟨_, _, _, _, by omega, by first | rfl | (simp; done) | (simp; omega), ⟨vr_half HR.out.1, HR2⟩, ⟨by (first | rfl | assumption | (go_simp; done) | (simp (disch := (first | omega | (simp; done) | (simp; omega))) [go_sem, *]; done)), by (first | rfl | assumption | (go_simp; done) | (simp (disch := (first | omega | (simp; done) | (simp; omega))) [go_sem, *]; done)), by (first | rfl | assumption | (go_simp; done) | (simp (disch := (first | omega | (simp; done) | (simp; omega))) [go_sem, *]; done)), by (first | rfl | assumption | (go_simp; done) | (simp (disch := (first | omega | (simp; done) | (simp; omega))) [go_sem, *]; done)), by (first | rfl | assumption | (go_simp; done) | (simp (disch := (first | omega | (simp; done) | (simp; omega))) [go_sem, *]; done)), by (first | rfl | assumption | (go_simp; done) | (simp (disch := (first | omega | (simp; done) | (simp; omega))) [go_sem, *]; done)), by (first | rfl | assumption | (go_simp; done) | (simp (disch := (first | omega | (simp; done) | (simp; omega))) [go_sem, *]; done)), by (first | rfl | assumption | (go_simp; done) | (simp (disch := (first | omega | (simp; done) | (simp; omega))) [go_sem, *]; done))⟩, ⟨by (first | rfl | assumption | (go_simp; done) | (simp (disch := (first | omega | (simp; done) | (simp; omega))) [go_sem, *]; done)), by (first | rfl | assumption | (go_simp; done) | (simp (disch := (first | omega | (simp; done) | (simp; omega))) [go_sem, *]; done)), by (first | rfl | assumption | (go_simp; done) | (simp (disch := (first | omega | (simp; done) | (simp; omega))) [go_sem, *]; done)), by (first | rfl | assumption | (go_simp; done) | (simp (disch := (first | omega | (simp; done) | (simp; omega))) [go_sem, *]; done)), by (first | rfl | assumption | (go_simp; done) | (simp (disch := (first | omega | (simp; done) | (simp; omega))) [go_sem, *]; done)), by (first | rfl | assumption | (go_simp; done) | (simp (disch := (first | omega | (simp; done) | (simp; omega))) [go_sem, *]; done)), by (first | rfl | assumption | (go_simp; done) | (simp (disch := (first | omega | (simp; done) | (simp; omega))) [go_sem, *]; done)), by (first | rfl | assumption | (go_simp; done) | (simp (disch := (first | omega | (simp; done) | (simp; omega))) [go_sem, *]; done)), by (first | rfl | assumption | (go_simp; done) | (simp (disch := (first | omega | (simp; done) | (simp; omega))) [go_sem, *]; done)), by (first | rfl | assumption | (go_simp; done) | (simp (disch := (first | omega | (simp; done) | (simp; omega))) [go_sem, *]; done))⟩, by (repeat' (first | (with_reducible exact Below.refl _ _) | (with_reducible refine Below.alloc ?_ ?_ _) | (with_reducible refine Below.drew ?_) | (with_reducible refine Below.setCell ?_ ?_ _) | (with_reducible refine chain ?_ (by assumption) ?_) | omega | (simp; done) | (simp; omega)))⟩

set_option maxRecDepth 100000 in
set_option maxHeartbeats 2000000 in
theorem dof_f (a b c d e : Int) (w : World) (hx : vr a b c d = false) :
    Calls Try.prog 130 #[rg a b c d, .int .i64 e] w fun ee w' => ee = .returned (dt 0 0 0 0 0 false) ∧ Below w.heap.size w w' := by
  have HX := hid hx
  clear hx
  go_enter Try.func130, Try.ntmps130
  go_wp2_with (first | (go_at_call 172; ((with_reducible refine (iv_f _ _ _ _ _ HX.out).mono ?_); rintro ee w1 ⟨rfl, hb1⟩; obtain ⟨hc1, hf1, _⟩ := bcell hb1; have hz1 := hb1.size; (try simp at hz1); (try have hx10 : w.heap.size < w1.heap.size := (by omega)); (try have hx11 : w.heap.size + 1 < w1.heap.size := (by omega)); (try have hx12 : w.heap.size + 1 + 1 < w1.heap.size := (by omega)); (try have hx13 : w.heap.size + 1 + 1 + 1 < w1.heap.size := (by omega)))) | go_in)
  refine bodyPost_ret (v := dt 0 0 0 0 0 false) (by first | (simp [results, Try.results130, go_sem, *]; done) | (simp (disch := (first | omega | (simp; done) | (simp; omega))) [results, Try.results130, go_sem, *]; done) | (simp only [results, Try.results130]; go_simp; done)) rfl ⟨rfl, ?_⟩
  repeat' (first | (with_reducible exact Below.refl _ _) | (with_reducible refine Below.alloc ?_ ?_ _) | (with_reducible refine Below.drew ?_) | (with_reducible refine Below.setCell ?_ ?_ _) | (with_reducible refine chain ?_ (by assumption) ?_) | omega | (simp; done) | (simp; omega))

set_option maxRecDepth 100000 in
set_option maxHeartbeats 2000000 in
theorem dof_n (a b c d e : Int) (w : World) (hx : vr a b c d = true) (he : e < 0) :
    Calls Try.prog 130 #[rg a b c d, .int .i64 e] w fun ee w' => ee = .returned (dt 0 0 0 0 0 false) ∧ Below w.heap.size w w' := by
  have he2 : e < 0 := he
  have HX := hid hx
  clear hx
  have HE := hid he
  clear he
  go_enter Try.func130, Try.ntmps130
  go_wp2_with (first | (go_at_call 172; ((with_reducible refine (iv_t _ _ _ _ _ HX.out).mono ?_); rintro ee w1 ⟨rfl, hb1⟩; obtain ⟨hc1, hf1, _⟩ := bcell hb1; have hz1 := hb1.size; (try simp at hz1); (try have hx10 : w.heap.size < w1.heap.size := (by omega)); (try have hx11 : w.heap.size + 1 < w1.heap.size := (by omega)); (try have hx12 : w.heap.size + 1 + 1 < w1.heap.size := (by omega)); (try have hx13 : w.heap.size + 1 + 1 + 1 < w1.heap.size := (by omega)))) | go_in)
  refine bodyPost_ret (v := dt 0 0 0 0 0 false) (by first | (simp [results, Try.results130, go_sem, *]; done) | (simp (disch := (first | omega | (simp; done) | (simp; omega))) [results, Try.results130, go_sem, *]; done) | (simp only [results, Try.results130]; go_simp; done)) rfl ⟨rfl, ?_⟩
  repeat' (first | (with_reducible exact Below.refl _ _) | (with_reducible refine Below.alloc ?_ ?_ _) | (with_reducible refine Below.drew ?_) | (with_reducible refine Below.setCell ?_ ?_ _) | (with_reducible refine chain ?_ (by assumption) ?_) | omega | (simp; done) | (simp; omega))

set_option maxRecDepth 100000 in
set_option maxHeartbeats 2000000 in
theorem dof_m (a b c d e : Int) (w : World) (hx : vr a b c d = true) (he : 60 < e) :
    Calls Try.prog 130 #[rg a b c d, .int .i64 e] w fun ee w' => ee = .returned (dt 0 0 0 0 0 false) ∧ Below w.heap.size w w' := by
  have he2 : 60 < e := he
  have he3 : ¬ (e < 0) := by omega
  have HX := hid hx
  clear hx
  have HE := hid he
  clear he
  go_enter Try.func130, Try.ntmps130
  go_wp2_with (first | (go_at_call 172; ((with_reducible refine (iv_t _ _ _ _ _ HX.out).mono ?_); rintro ee w1 ⟨rfl, hb1⟩; obtain ⟨hc1, hf1, _⟩ := bcell hb1; have hz1 := hb1.size; (try simp at hz1); (try have hx10 : w.heap.size < w1.heap.size := (by omega)); (try have hx11 : w.heap.size + 1 < w1.heap.size := (by omega)); (try have hx12 : w.heap.size + 1 + 1 < w1.heap.size := (by omega)); (try have hx13 : w.heap.size + 1 + 1 + 1 < w1.heap.size := (by omega)))) | go_in)
  refine bodyPost_ret (v := dt 0 0 0 0 0 false) (by first | (simp [results, Try.results130, go_sem, *]; done) | (simp (disch := (first | omega | (simp; done) | (simp; omega))) [results, Try.results130, go_sem, *]; done) | (simp only [results, Try.results130]; go_simp; done)) rfl ⟨rfl, ?_⟩
  repeat' (first | (with_reducible exact Below.refl _ _) | (with_reducible refine Below.alloc ?_ ?_ _) | (with_reducible refine Below.drew ?_) | (with_reducible refine Below.setCell ?_ ?_ _) | (with_reducible refine chain ?_ (by assumption) ?_) | omega | (simp; done) | (simp; omega))
end Go.Proofs.Ytofclfgaekjonaa
namespace Go.Proofs.Ytofclfgaekjonaa
open Go.RowKit RM
set_option linter.unusedVariables false
set_option linter.unusedSimpArgs false
attribute [local irreducible] World.setCell

set_option maxRecDepth 100000 in
set_option maxHeartbeats 2000000 in
theorem ivd_t (a b c d : Int) (e : Nat) (w : World) (hx : vr a b c d = true) (he : e ≤ 60) (hl : low e a b c d = ⟨a, b, c, d, e⟩) :
    Calls Try.prog 71 #[dy a b c d e] w fun ee w' => ee = .returned (.bool true) ∧ Below w.heap.size w w' := by
  have HX := hid hx
  clear hx
  have HE := hid he
  clear he
  have HL := hid hl
  clear hl
  go_enter Try.func71, Try.ntmps71
  go_wp2_with (first | (go_at_call 130; ((with_reducible refine (dof_t _ _ _ _ _ _ _ _ _ _ _ HX.out HE.out HL.out).mono ?_); rintro ee w1 ⟨rfl, hb1⟩; obtain ⟨hc1, hf1, _⟩ := bcell hb1; have hz1 := hb1.size; (try simp at hz1); (try have hx10 : w.heap.size < w1.heap.size := (by omega)); (try have hx11 : w.heap.size + 1 < w1.heap.size := (by omega)); (try have hx12 : w.heap.size + 1 + 1 < w1.heap.size := (by omega)); (try have hx13 : w.heap.size + 1 + 1 + 1 < w1.heap.size := (by omega)))) | go_in)
  go_ret
  refine ⟨rfl, ?_⟩
  repeat' (first | (with_reducible exact Below.refl _ _) | (with_reducible refine Below.alloc ?_ ?_ _) | (with_reducible refine Below.drew ?_) | (with_reducible refine Below.setCell ?_ ?_ _) | (with_reducible refine chain ?_ (by assumption) ?_) | omega | (simp; done) | (simp; omega))

set_option maxRecDepth 100000 in
set_option maxHeartbeats 2000000 in
theorem ivd_e (a b c d : Int) (e : Nat) (A B C D : Int) (E : Nat) (w : World) (hx : vr a b c d = true) (he : e ≤ 60) (hl : low e a b c d = ⟨A, B, C, D, E⟩) (hne0 : E ≠ e) :
    Calls Try.prog 71 #[dy a b c d e] w fun ee w' => ee = .returned (.bool false) ∧ Below w.heap.size w w' := by
  have HX := hid hx
  clear hx
  have HE := hid he
  clear he
  have HL := hid hl
  clear hl
  have hne : ¬ (E = e) := hne0
  have hne2 : ¬ ((E : Int) = (e : Int)) := by omega
  have hne3 : ((E : Int) == (e : Int)) = false := by simpa using hne2
  clear hne0
  go_enter Try.func71, Try.ntmps71
  go_wp2_with (first | (go_at_call 130; ((with_reducible refine (dof_t _ _ _ _ _ _ _ _ _ _ _ HX.out HE.out HL.out).mono ?_); rintro ee w1 ⟨rfl, hb1⟩; obtain ⟨hc1, hf1, _⟩ := bcell hb1; have hz1 := hb1.size; (try simp at hz1); (try have hx10 : w.heap.size < w1.heap.size := (by omega)); (try have hx11 : w.heap.size + 1 < w1.heap.size := (by omega)); (try have hx12 : w.heap.size + 1 + 1 < w1.heap.size := (by omega)); (try have hx13 : w.heap.size + 1 + 1 + 1 < w1.heap.size := (by omega)))) | go_in)
  go_ret
  refine ⟨rfl, ?_⟩
  repeat' (first | (with_reducible exact Below.refl _ _) | (with_reducible refine Below.alloc ?_ ?_ _) | (with_reducible refine Below.drew ?_) | (with_reducible refine Below.setCell ?_ ?_ _) | (with_reducible refine chain ?_ (by assumption) ?_) | omega | (simp; done) | (simp; omega))

set_option maxRecDepth 100000 in
set_option maxHeartbeats 2000000 in
theorem ivd_f (a b c d e : Int) (w : World) (hx : vr a b c d = false) :
    Calls Try.prog 71 #[dy a b c d e] w fun ee w' => ee = .returned (.bool false) ∧ Below w.heap.size w w' := by
  have HX := hid hx
  clear hx
  go_enter Try.func71, Try.ntmps71
  go_wp2_with (first | (go_at_call 130; ((with_reducible refine (dof_f _ _ _ _ _ _ HX.out).mono ?_); rintro ee w1 ⟨rfl, hb1⟩; obtain ⟨hc1, hf1, _⟩ := bcell hb1; have hz1 := hb1.size; (try simp at hz1); (try have hx10 : w.heap.size < w1.heap.size := (by omega)); (try have hx11 : w.heap.size + 1 < w1.heap.size := (by omega)); (try have hx12 : w.heap.size + 1 + 1 < w1.heap.size := (by omega)); (try have hx13 : w.heap.size + 1 + 1 + 1 < w1.heap.size := (by omega)))) | go_in)
  go_ret
  refine ⟨rfl, ?_⟩
  repeat' (first | (with_reducible exact Below.refl _ _) | (with_reducible refine Below.alloc ?_ ?_ _) | (with_reducible refine Below.drew ?_) | (with_reducible refine Below.setCell ?_ ?_ _) | (with_reducible refine chain ?_ (by assumption) ?_) | omega | (simp; done) | (simp; omega))

set_option maxRecDepth 100000 in
set_option maxHeartbeats 2000000 in
theorem ivd_n (a b c d e : Int) (w : World) (hx : vr a b c d = true) (he : e < 0) :
    Calls Try.prog 71 #[dy a b c d e] w fun ee w' => ee = .returned (.bool false) ∧ Below w.heap.size w w' := by
  have HX := hid hx
  clear hx
  have HE := hid he
  clear he
  go_enter Try.func71, Try.ntmps71
  go_wp2_with (first | (go_at_call 130; ((with_reducible refine (dof_n _ _ _ _ _ _ HX.out HE.out).mono ?_); rintro ee w1 ⟨rfl, hb1⟩; obtain ⟨hc1, hf1, _⟩ := bcell hb1; have hz1 := hb1.size; (try simp at hz1); (try have hx10 : w.heap.size < w1.heap.size := (by omega)); (try have hx11 : w.heap.size + 1 < w1.heap.size := (by omega)); (try have hx12 : w.heap.size + 1 + 1 < w1.heap.size := (by omega)); (try have hx13 : w.heap.size + 1 + 1 + 1 < w1.heap.size := (by omega)))) | go_in)
  go_ret
  refine ⟨rfl, ?_⟩
  repeat' (first | (with_reducible exact Below.refl _ _) | (with_reducible refine Below.alloc ?_ ?_ _) | (with_reducible refine Below.drew ?_) | (with_reducible refine Below.setCell ?_ ?_ _) | (with_reducible refine chain ?_ (by assumption) ?_) | omega | (simp; done) | (simp; omega))

set_option maxRecDepth 100000 in
set_option maxHeartbeats 2000000 in
theorem ivd_m (a b c d e : Int) (w : World) (hx : vr a b c d = true) (he : 60 < e) :
    Calls Try.prog 71 #[dy a b c d e] w fun ee w' => ee = .returned (.bool false) ∧ Below w.heap.size w w' := by
  have HX := hid hx
  clear hx
  have HE := hid he
  clear he
  go_enter Try.func71, Try.ntmps71
  go_wp2_with (first | (go_at_call 130; ((with_reducible refine (dof_m _ _ _ _ _ _ HX.out HE.out).mono ?_); rintro ee w1 ⟨rfl, hb1⟩; obtain ⟨hc1, hf1, _⟩ := bcell hb1; have hz1 := hb1.size; (try simp at hz1); (try have hx10 : w.heap.size < w1.heap.size := (by omega)); (try have hx11 : w.heap.size + 1 < w1.heap.size := (by omega)); (try have hx12 : w.heap.size + 1 + 1 < w1.heap.size := (by omega)); (try have hx13 : w.heap.size + 1 + 1 + 1 < w1.heap.size := (by omega)))) | go_in)
  go_ret
  refine ⟨rfl, ?_⟩
  repeat' (first | (with_reducible exact Below.refl _ _) | (with_reducible refine Below.alloc ?_ ?_ _) | (with_reducible refine Below.drew ?_) | (with_reducible refine Below.setCell ?_ ?_ _) | (with_reducible refine chain ?_ (by assumption) ?_) | omega | (simp; done) | (simp; omega))

theorem ivd_v {a b c d : Int} {e : Nat} (w : World) (h : vd a b c d e = true) :
    Calls Try.prog 71 #[dy a b c d e] w fun ee w' => ee = .returned (.bool true) ∧ Below w.heap.size w w' := by
  obtain ⟨h1, h2, h3⟩ := vd_iff.1 h
  exact ivd_t a b c d e w h1 h2 (low_fix h3)
theorem ivd_no {a b c d e : Int} (w : World) (h : vi a b c d e = false) :
    Calls Try.prog 71 #[dy a b c d e] w fun ee w' => ee = .returned (.bool false) ∧ Below w.heap.size w w' := by
  cases hx : vr a b c d
  · exact ivd_f a b c d e w hx
  · by_cases h0 : e < 0
    · exact ivd_n a b c d e w hx h0
    · by_cases h1 : 60 < e
      · exact ivd_m a b c d e w hx h1
      · obtain ⟨n, rfl⟩ : ∃ n : Nat, e = n := ⟨e.toNat, by omega⟩
        rw [vi_nat] at h
        have hn : ¬ (n = 0 ∨ ev2 a b c d = false) := fun hh => by rw [vd_iff.2 ⟨hx, by omega, hh⟩] at h; cases h
        rcases hq : low n a b c d with ⟨A, B, C, D, E⟩
        exact ivd_e a b c d n A B C D E w hx (by omega) hq (low_ne hx hn hq)
end Go.Proofs.Ytofclfgaekjonaa
namespace Go.Proofs.Ytofclfgaekjonaa
open Go.RowKit RM
set_option linter.unusedVariables false
set_option linter.unusedSimpArgs false
attribute [local irreducible] World.setCell

/-- a dyadic number, valid or not -/
structure D5 where
  a : Int
  b : Int
  c : Int
  d : Int
  e : Int
abbrev D5.v (x : D5) : Value := dy x.a x.b x.c x.d x.e
def D5.ok (x : D5) : Bool := vi x.a x.b x.c x.d x.e
def z5 : D5 := ⟨0, 0, 0, 0, 0⟩
def one5 : D5 := ⟨1, 0, 0, 0, 0⟩
def ofDy (x : Dy) : D5 := ⟨x.a, x.b, x.c, x.d, x.e⟩
theorem z5_ok : z5.ok = true := by decide
theorem one5_ok : one5.ok = true := by decide
theorem ok_nat {x : D5} (h : x.ok = true) : ∃ n : Nat, x.e = n ∧ vd x.a x.b x.c x.d n = true := by
  rcases vi_cases (a := x.a) (b := x.b) (c := x.c) (d := x.d) (e := x.e) with k | ⟨n, h1, h2⟩
  · unfold D5.ok at h; rw [k] at h; cases h
  · exact ⟨n, h1, h2⟩
theorem ok_low {e : Nat} {a b c d : Int} (hx : vr a b c d = true) (he : e ≤ 60) : (ofDy (low e a b c d)).ok = true := by
  rcases hl : low e a b c d with ⟨A, B, C, D, E⟩
  have := low_vd hx he hl
  unfold D5.ok ofDy
  simp only [vi_nat, this]
attribute [irreducible] D5.ok
end Go.Proofs.Ytofclfgaekjonaa
namespace Go.Proofs.Ytofclfgaekjonaa
open Go.RowKit RM
set_option linter.unusedVariables false
set_option linter.unusedSimpArgs false
theorem setCell_self {w : World} {b o : Nat} {v : Value} (h : w.cell? ⟨b, o, none⟩ = some v) : w.setCell ⟨b, o, none⟩ v = w := by
  unfold World.setCell
  have : w.heap.modify b (fun | .cells c elem frozen => .cells (if (none : Option Nat).isSome then c else c.setIfInBounds o v) elem frozen | x => x) = w.heap := by
    apply Array.ext_getElem?
    intro i
    rw [Array.getElem?_modify]
    split
    · rename_i hi
      subst hi
      unfold World.cell? at h
      split at h
      · rename_i c el fr hc
        rw [hc]
        simp at h ⊢
        apply Array.ext_getElem?
        intro j
        rw [Array.getElem?_setIfInBounds]
        split
        · rename_i hj
          subst hj
          rw [h]
          split
          · rfl
          · rename_i hn
            exfalso
            exact hn (Array.getElem?_eq_some_iff.1 h).1
        · rfl
      · cases h
    · rfl
  exact congrArg (fun h => ({ w with heap := h } : World)) this
theorem setCell_twice (w : World) (b o : Nat) (u v : Value) : (w.setCell ⟨b, o, none⟩ u).setCell ⟨b, o, none⟩ v = w.setCell ⟨b, o, none⟩ v := by
  unfold World.setCell
  have : ((w.heap.modify b fun | .cells c elem frozen => .cells (if (none : Option Nat).isSome then c else c.setIfInBounds o u) elem frozen | x => x).modify b fun | .cells c elem frozen => .cells (if (none : Option Nat).isSome then c else c.setIfInBounds o v) elem frozen | x => x) = w.heap.modify b (fun | .cells c elem frozen => .cells (if (none : Option Nat).isSome then c else c.setIfInBounds o v) elem frozen | x => x) := by
    apply Array.ext_getElem?
    intro i
    simp only [Array.getElem?_modify]
    split
    · cases w.heap[i]? with
      | none => rfl
      | some x => cases x <;> simp
    · rfl
  show ({ w with heap := _ } : World) = { w with heap := _ }
  exact congrArg (fun h => ({ w with heap := h } : World)) this
theorem both {B : Nat} {w a : World} (h : Below B w a) (b o : Nat) (hp : b < B) (u : Value) : Below B (w.setCell ⟨b, o, none⟩ u) (a.setCell ⟨b, o, none⟩ u) := by
  refine ⟨h.os, h.tape, h.output, by have := h.size; simpa using this, fun k hk => ?_⟩
  by_cases hk2 : k = b
  · subst hk2
    have := h.block k hk
    simp only [World.setCell, Array.getElem?_modify, if_true, this]
  · rw [Below.heap_setCell _ _ _ _ hk2, Below.heap_setCell _ _ _ _ hk2, h.block k hk]
/-- the failure is set (again) behind some steps -/
theorem bad_step {B : Nat} {w a c : World} {b o : Nat} {u v : Value} (h : Below B (w.setCell ⟨b, o, none⟩ u) a) (hb : b < B) (h2 : Below a.heap.size (a.setCell ⟨b, o, none⟩ v) c) (hB : B ≤ a.heap.size) : Below B (w.setCell ⟨b, o, none⟩ v) c := by
  have h1 := both h b o hb v
  rw [setCell_twice] at h1
  exact h1.trans (h2.mono hB)
theorem bad_0 {B : Nat} {w : World} {b o : Nat} {u : Value} (h : w.cell? ⟨b, o, none⟩ = some u) : Below B (w.setCell ⟨b, o, none⟩ u) w := by
  rw [setCell_self h]; exact Below.refl _ _
theorem chain2 {B : Nat} {u a b : World} (h : Below B u a) (k : Below a.heap.size a b) (hB : B ≤ a.heap.size) : Below B u b := chain h k hB
end Go.Proofs.Ytofclfgaekjonaa
namespace Go.Proofs.Ytofclfgaekjonaa
open Go.RowKit RM
set_option linter.unusedVariables false
set_option linter.unusedSimpArgs false

set_option maxRecDepth 100000 in
set_option maxHeartbeats 1000000 in
theorem la (a b c d p q r s : Int) (w : World) (hx : vr a b c d = true) (hy : vr p q r s = true) :
    Calls Try.prog 170 #[rg a b c d, rg p q r s] w fun e w' => e = .returned (rg (a + p) (b + q) (c + r) (d + s)) ∧ Below w.heap.size w w' := by
  obtain ⟨⟨a1, a2⟩, ⟨b1, b2⟩, ⟨c1, c2⟩, ⟨d1, d2⟩⟩ := vr_iff.1 hx
  obtain ⟨⟨p1, p2⟩, ⟨q1, q2⟩, ⟨r1, r2⟩, ⟨s1, s2⟩⟩ := vr_iff.1 hy
  have HX := hid hx
  clear hx
  have HY := hid hy
  clear hy
  go_enter Try.func170, Try.ntmps170
  go_wp2_with (first | go_in)
  refine bodyPost_ret (v := rg (a + p) (b + q) (c + r) (d + s)) (by first | (simp [results, Try.results170, go_sem, *]; done) | (simp (disch := (first | omega | (simp; done) | (simp; omega))) [results, Try.results170, go_sem, *]; done) | (simp only [results, Try.results170]; go_simp; done)) rfl ⟨rfl, ?_⟩
  repeat' (first | (with_reducible exact Below.refl _ _) | (with_reducible refine Below.alloc ?_ ?_ _) | (with_reducible refine Below.drew ?_) | (with_reducible refine Below.setCell ?_ ?_ _) | (with_reducible refine chain ?_ (by assumption) ?_) | omega | (simp; done) | (simp; omega))

end Go.Proofs.Ytofclfgaekjonaa
namespace Go.Proofs.Ytofclfgaekjonaa
open Go.RowKit RM
set_option linter.unusedVariables false
set_option linter.unusedSimpArgs false

set_option maxRecDepth 100000 in
set_option maxHeartbeats 4000000 in
theorem lm (a b c d p q r s : Int) (w : World) (hx : vr a b c d = true) (hy : vr p q r s = true) :
    Calls Try.prog 168 #[rg a b c d, rg p q r s] w fun e w' => e = .returned (rg (m0 a b c d p q r s) (m1 a b c d p q r s) (m2 a b c d p q r s) (m3 a b c d p q r s)) ∧ Below w.heap.size w w' := by
  obtain ⟨ha, hb, hc, hd⟩ := vr_iff.1 hx
  obtain ⟨hp, hq, hr, hs⟩ := vr_iff.1 hy
  obtain ⟨ap1, ap2⟩ := mul_bd ha hp
  obtain ⟨aq1, aq2⟩ := mul_bd ha hq
  obtain ⟨ar1, ar2⟩ := mul_bd ha hr
  obtain ⟨as1, as2⟩ := mul_bd ha hs
  obtain ⟨bp1, bp2⟩ := mul_bd hb hp
  obtain ⟨bq1, bq2⟩ := mul_bd hb hq
  obtain ⟨br1, br2⟩ := mul_bd hb hr
  obtain ⟨bs1, bs2⟩ := mul_bd hb hs
  obtain ⟨cp1, cp2⟩ := mul_bd hc hp
  obtain ⟨cq1, cq2⟩ := mul_bd hc hq
  obtain ⟨cr1, cr2⟩ := mul_bd hc hr
  obtain ⟨cs1, cs2⟩ := mul_bd hc hs
  obtain ⟨dp1, dp2⟩ := mul_bd hd hp
  obtain ⟨dq1, dq2⟩ := mul_bd hd hq
  obtain ⟨dr1, dr2⟩ := mul_bd hd hr
  obtain ⟨ds1, ds2⟩ := mul_bd hd hs
  clear ha hb hc hd hp hq hr hs
  have HX := hid hx
  clear hx
  have HY := hid hy
  clear hy
  go_enter Try.func168, Try.ntmps168
  go_wp2_with (first | go_in)
  refine bodyPost_ret (v := rg (m0 a b c d p q r s) (m1 a b c d p q r s) (m2 a b c d p q r s) (m3 a b c d p q r s)) (by first | (simp [results, Try.results168, go_sem, *]; done) | (simp (disch := (first | omega | (simp; done) | (simp; omega))) [results, Try.results168, go_sem, *]; done) | (simp only [results, Try.results168]; go_simp; done)) rfl ⟨rfl, ?_⟩
  repeat' (first | (with_reducible exact Below.refl _ _) | (with_reducible refine Below.alloc ?_ ?_ _) | (with_reducible refine Below.drew ?_) | (with_reducible refine Below.setCell ?_ ?_ _) | (with_reducible refine chain ?_ (by assumption) ?_) | omega | (simp; done) | (simp; omega))
end Go.Proofs.Ytofclfgaekjonaa
namespace Go.Proofs.Ytofclfgaekjonaa
open Go.RowKit RM
set_option linter.unusedVariables false
set_option linter.unusedSimpArgs false
attribute [local irreducible] World.setCell

end Go.Proofs.Ytofclfgaekjonaa
namespace Go.Proofs.Ytofclfgaekjonaa
open Go.RowKit
/-- a cell that is there: behind a call, behind a new block, behind a store of four cells into a newer block -/
theorem kc {a b : World} {k o : Nat} {v : Value} (hb : Below a.heap.size a b) (h : a.cell? ⟨k, o, none⟩ = some v) : b.cell? ⟨k, o, none⟩ = some v :=
  ((bcell hb).1 k o (World.block_lt_of_cell? a _ h)).trans h
theorem kal {a : World} {x : Obj} {k o : Nat} {v : Value} (h : a.cell? ⟨k, o, none⟩ = some v) : (a.alloc x).cell? ⟨k, o, none⟩ = some v :=
  kc ((Below.refl _ _).alloc (Nat.le_refl _) _) h
theorem kald {a : World} {x : Obj} {k o : Nat} {v : Value} (h : a.drew.cell? ⟨k, o, none⟩ = some v) : (a.alloc x).drew.cell? ⟨k, o, none⟩ = some v :=
  kal (a := a) h
/-- a store that is folded into the new block -/
theorem kre {a : World} {x y : Obj} {k o : Nat} {v : Value} (hk : k < a.heap.size) (h : (a.alloc x).cell? ⟨k, o, none⟩ = some v) : (a.alloc y).cell? ⟨k, o, none⟩ = some v := by
  rw [World.cell?_alloc_lt _ _ _ hk]
  rw [World.cell?_alloc_lt _ _ _ hk] at h
  exact h
end Go.Proofs.Ytofclfgaekjonaa
namespace Go.Proofs.Ytofclfgaekjonaa
open Go.RowKit RM
set_option linter.unusedVariables false
set_option linter.unusedSimpArgs false
attribute [local irreducible] World.setCell
theorem wr64 {x : Int} (h1 : -9223372036854775808 ≤ x) (h2 : x ≤ 9223372036854775807) : IntKind.i64.wrap x = x := by
  rw [IntKind.wrap_i64]; first | omega | (simp only [wrap64]; omega) | (rw [Int.bmod_def]; omega)
theorem l2lowx (a b c d x : Int) (e : Nat) (A B C D : Int) (E : Nat) (w : World) (hn : x = (e : Int)) (hx : vr a b c d = true) (he : e ≤ 60) (hl : low e a b c d = ⟨A, B, C, D, E⟩) :
    Calls Try.prog 166 #[rg a b c d, .int .i64 x] w fun ee w' => ee = .returned (dy A B C D E) ∧ Below w.heap.size w w' := by
  subst hn; exact l2low a b c d e A B C D E w hx he hl
theorem dofx (a b c d x : Int) (e : Nat) (A B C D : Int) (E : Nat) (w : World) (hn : x = (e : Int)) (hx : vr a b c d = true) (he : e ≤ 60) (hl : low e a b c d = ⟨A, B, C, D, E⟩) :
    Calls Try.prog 130 #[rg a b c d, .int .i64 x] w fun ee w' => ee = .returned (dt A B C D E true) ∧ Below w.heap.size w w' := by
  subst hn; exact dof_t a b c d e A B C D E w hx he hl
theorem ks5 {a : World} {g k o : Nat} {v v0 v1 v2 v3 v4 : Value} (hne : g ≠ k) (h : a.cell? ⟨k, o, none⟩ = some v) : (((((a.setCell ⟨g, 0, none⟩ v0).setCell ⟨g, 1, none⟩ v1).setCell ⟨g, 2, none⟩ v2).setCell ⟨g, 3, none⟩ v3).setCell ⟨g, 4, none⟩ v4).cell? ⟨k, o, none⟩ = some v := by
  rw [World.cell?_setCell_far _ _ _ _ hne, World.cell?_setCell_far _ _ _ _ hne, World.cell?_setCell_far _ _ _ _ hne, World.cell?_setCell_far _ _ _ _ hne, World.cell?_setCell_far _ _ _ _ hne, h]
/-- a cell behind a call that has set another one -/
theorem kcs {a b : World} {g k o : Nat} {u v : Value} (hb : Below a.heap.size (a.setCell ⟨g, 0, none⟩ u) b) (hne : g ≠ k) (h : a.cell? ⟨k, o, none⟩ = some v) : b.cell? ⟨k, o, none⟩ = some v :=
  (hb.cell (p := ⟨k, o, none⟩) (World.block_lt_of_cell? a _ h)).trans ((World.cell?_setCell_far _ _ _ _ hne).trans h)
theorem kfs {a b : World} {g k o : Nat} {u : Value} (hb : Below a.heap.size (a.setCell ⟨g, 0, none⟩ u) b) (hk : k < a.heap.size) (h : a.frozen? ⟨k, o, none⟩ = false) : b.frozen? ⟨k, o, none⟩ = false :=
  (hb.frozen (p := ⟨k, o, none⟩) hk).trans ((World.frozen?_setCell _ _ _ _).trans h)
theorem bcellB {B : Nat} {W w1 : World} (hb : Below B W w1) : (∀ b o, b < B → w1.cell? ⟨b, o, none⟩ = W.cell? ⟨b, o, none⟩) ∧ (∀ b o, b < B → w1.frozen? ⟨b, o, none⟩ = W.frozen? ⟨b, o, none⟩) ∧ W.heap.size ≤ w1.heap.size :=
  ⟨fun b o h => hb.cell (p := ⟨b, o, none⟩) h, fun b o h => hb.frozen (p := ⟨b, o, none⟩) h, hb.size⟩
theorem kf {a b : World} {k o : Nat} {v : Value} (hb : Below a.heap.size a b) (h : a.cell? ⟨k, o, none⟩ = some v) (hf : a.frozen? ⟨k, o, none⟩ = false) : b.frozen? ⟨k, o, none⟩ = false :=
  (hb.frozen (p := ⟨k, o, none⟩) (World.block_lt_of_cell? a _ h)).trans hf
set_option maxHeartbeats 1000000 in
theorem C5.put {W : World} {k : Nat} {a b c d e : Int} (h : C5 W k a b c d e) (a' b' c' d' e' : Int) : C5 (((((W.setCell ⟨k, 0, none⟩ (.int .i64 a')).setCell ⟨k, 1, none⟩ (.int .i64 b')).setCell ⟨k, 2, none⟩ (.int .i64 c')).setCell ⟨k, 3, none⟩ (.int .i64 d')).setCell ⟨k, 4, none⟩ (.int .i64 e')) k a' b' c' d' e' := by
  obtain ⟨h0, h1, h2, h3, h4, h5, h6, h7, h8, h9⟩ := h
  exact ⟨by go_simp, by go_simp, by go_simp, by go_simp, by go_simp, by go_simp, by go_simp, by go_simp, by go_simp, by go_simp⟩
theorem C5.far {W : World} {k g : Nat} {a b c d e : Int} {v0 v1 v2 v3 v4 : Value} (h : C5 W k a b c d e) (hne : g ≠ k) : C5 (((((W.setCell ⟨g, 0, none⟩ v0).setCell ⟨g, 1, none⟩ v1).setCell ⟨g, 2, none⟩ v2).setCell ⟨g, 3, none⟩ v3).setCell ⟨g, 4, none⟩ v4) k a b c d e :=
  ⟨ks5 hne h.c0, ks5 hne h.c1, ks5 hne h.c2, ks5 hne h.c3, ks5 hne h.c4, by simp [h.f0], by simp [h.f1], by simp [h.f2], by simp [h.f3], by simp [h.f4]⟩
theorem C5.monos {W W' : World} {k g : Nat} {u : Value} {a b c d e : Int} (h : C5 W k a b c d e) (hne : g ≠ k) (hb : Below W.heap.size (W.setCell ⟨g, 0, none⟩ u) W') : C5 W' k a b c d e :=
  ⟨kcs hb hne h.c0, kcs hb hne h.c1, kcs hb hne h.c2, kcs hb hne h.c3, kcs hb hne h.c4, kfs hb h.lt h.f0, kfs hb h.lt h.f1, kfs hb h.lt h.f2, kfs hb h.lt h.f3, kfs hb h.lt h.f4⟩
theorem C5.drew {W : World} {k : Nat} {a b c d e : Int} (h : C5 W k a b c d e) : C5 W.drew k a b c d e := ⟨h.c0, h.c1, h.c2, h.c3, h.c4, h.f0, h.f1, h.f2, h.f3, h.f4⟩

set_option maxRecDepth 100000 in
set_option maxHeartbeats 2000000 in
theorem lrt (a b c d : Int) (w : World) (hx : vr a b c d = true) :
    Calls Try.prog 169 #[rg a b c d] w fun ee w' => ee = .returned (rg (b - d) (a + c) (b + d) (c - a)) ∧ Below w.heap.size w w' := by
  obtain ⟨⟨a1, a2⟩, ⟨b1, b2⟩, ⟨c1, c2⟩, ⟨d1, d2⟩⟩ := vr_iff.1 hx
  have HX := hid hx
  clear hx
  go_enter Try.func169, Try.ntmps169
  go_wp2_with (first | go_in)
  refine bodyPost_ret (v := rg (b - d) (a + c) (b + d) (c - a)) (by first | (simp [results, Try.results169, go_sem, *]; done) | (simp (disch := (first | omega | (simp; done) | (simp; omega))) [results, Try.results169, go_sem, *]; done) | (simp only [results, Try.results169]; go_simp; done)) rfl ⟨rfl, ?_⟩
  repeat' (first | (with_reducible exact Below.refl _ _) | (with_reducible refine Below.alloc ?_ ?_ _) | (with_reducible refine Below.drew ?_) | (with_reducible refine Below.setCell ?_ ?_ _) | (with_reducible refine chain ?_ (by assumption) ?_) | omega | (simp; done) | (simp; omega))

set_option maxRecDepth 100000 in
set_option maxHeartbeats 2000000 in
theorem ring_t (g : Nat) (a b c d : Int) (w : World) (hx : vr a b c d = true) :
    Calls Try.prog 167 #[.pointer (some ⟨g, 0, none⟩), rg a b c d] w fun ee w' => ee = .returned (rg a b c d) ∧ Below w.heap.size w w' := by
  have HX := hid hx
  clear hx
  go_enter Try.func167, Try.ntmps167
  go_wp2_with (first | (go_at_call 155; ((with_reducible refine (lg_t _ _ _ _ _ HX.out).mono ?_); rintro ee w1 ⟨rfl, hb1⟩; obtain ⟨hc1, hf1, _⟩ := bcell hb1; have hz1 := hb1.size; (try simp at hz1); (try have hx10 : w.heap.size < w1.heap.size := (by omega)); (try have hx11 : w.heap.size + 1 < w1.heap.size := (by omega)); (try have hx12 : w.heap.size + 1 + 1 < w1.heap.size := (by omega)); (try have hx13 : w.heap.size + 1 + 1 + 1 < w1.heap.size := (by omega)))) | go_in)
  refine bodyPost_ret (v := rg a b c d) (by first | (simp [results, Try.results167, go_sem, *]; done) | (simp (disch := (first | omega | (simp; done) | (simp; omega))) [results, Try.results167, go_sem, *]; done) | (simp only [results, Try.results167]; go_simp; done)) rfl ⟨rfl, ?_⟩
  repeat' (first | (with_reducible exact Below.refl _ _) | (with_reducible refine Below.alloc ?_ ?_ _) | (with_reducible refine Below.drew ?_) | (with_reducible refine Below.setCell ?_ ?_ _) | (with_reducible refine chain ?_ (by assumption) ?_) | omega | (simp; done) | (simp; omega))

set_option maxRecDepth 100000 in
set_option maxHeartbeats 2000000 in
theorem ring_f (g : Nat) (a b c d : Int) (z : Bool) (w : World) (h0 : w.cell? ⟨g, 0, none⟩ = some (.bool z)) (f0 : w.frozen? ⟨g, 0, none⟩ = false) (hx : vr a b c d = false) :
    Calls Try.prog 167 #[.pointer (some ⟨g, 0, none⟩), rg a b c d] w fun ee w' => ee = .returned (rg 0 0 0 0) ∧ Below w.heap.size (w.setCell ⟨g, 0, none⟩ (.bool true)) w' := by
  have hg := World.block_lt_of_cell? w _ h0
  have hg2 : g < w.heap.size := hg
  have HX := hid hx
  clear hx
  go_enter Try.func167, Try.ntmps167
  go_wp2_with (first | (go_at_call 155; ((with_reducible refine (lg_f _ _ _ _ _ HX.out).mono ?_); rintro ee w1 ⟨rfl, hb1⟩; obtain ⟨hc1, hf1, _⟩ := bcell hb1; have hz1 := hb1.size; (try simp at hz1); (try have hx10 : w.heap.size < w1.heap.size := (by omega)); (try have hx11 : w.heap.size + 1 < w1.heap.size := (by omega)); (try have hx12 : w.heap.size + 1 + 1 < w1.heap.size := (by omega)); (try have hx13 : w.heap.size + 1 + 1 + 1 < w1.heap.size := (by omega)); have gc1 : w1.cell? ⟨g, 0, none⟩ = some (.bool z) := (by rw [hc1 _ _ (by first | omega | (simp; done) | (simp; omega))]; first | assumption | go_simp); have gf1 : w1.frozen? ⟨g, 0, none⟩ = false := (by rw [hf1 _ _ (by first | omega | (simp; done) | (simp; omega))]; first | assumption | go_simp))) | go_in)
  refine bodyPost_ret (v := rg 0 0 0 0) (by first | (simp [results, Try.results167, go_sem, *]; done) | (simp (disch := (first | omega | (simp; done) | (simp; omega))) [results, Try.results167, go_sem, *]; done) | (simp only [results, Try.results167]; go_simp; done)) rfl ⟨rfl, ?_⟩
  repeat' (first | (with_reducible assumption) | (with_reducible exact Below.refl _ _) | (with_reducible refine Below.alloc ?_ ?_ _) | (with_reducible refine Below.drew ?_) | (with_reducible refine both ?_ _ _ ?_ _) | (with_reducible refine Below.setCell ?_ ?_ _) | (with_reducible refine chain2 ?_ (by with_reducible assumption) ?_) | (with_reducible refine chain ?_ (by with_reducible assumption) ?_) | omega | (simp; done) | (simp; omega))

end Go.Proofs.Ytofclfgaekjonaa
