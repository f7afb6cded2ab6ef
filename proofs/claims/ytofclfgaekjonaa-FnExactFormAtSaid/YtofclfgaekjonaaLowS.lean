/- Contracts of the loop that brings a number into lowest form: the model's and the program's. -/
import Derived.Test.YtofclfgaekjonaaDyB
import Derived.Deep.LoopGhost
namespace Go.Proofs.Ytofclfgaekjonaa
open Go.RowKit RM
set_option linter.unusedVariables false
set_option linter.unusedSimpArgs false
attribute [local irreducible] World.setCell

/-- a block holds these four numbers, and may be written -/
structure C4 (W : World) (g : Nat) (a b c d : Int) : Prop where
  c0 : W.cell? ⟨g, 0, none⟩ = some (.int .i64 a)
  c1 : W.cell? ⟨g, 1, none⟩ = some (.int .i64 b)
  c2 : W.cell? ⟨g, 2, none⟩ = some (.int .i64 c)
  c3 : W.cell? ⟨g, 3, none⟩ = some (.int .i64 d)
  f0 : W.frozen? ⟨g, 0, none⟩ = false
  f1 : W.frozen? ⟨g, 1, none⟩ = false
  f2 : W.frozen? ⟨g, 2, none⟩ = false
  f3 : W.frozen? ⟨g, 3, none⟩ = false
/-- the same, with an exponent behind -/
structure C5 (W : World) (g : Nat) (a b c d e : Int) : Prop where
  c0 : W.cell? ⟨g, 0, none⟩ = some (.int .i64 a)
  c1 : W.cell? ⟨g, 1, none⟩ = some (.int .i64 b)
  c2 : W.cell? ⟨g, 2, none⟩ = some (.int .i64 c)
  c3 : W.cell? ⟨g, 3, none⟩ = some (.int .i64 d)
  c4 : W.cell? ⟨g, 4, none⟩ = some (.int .i64 e)
  f0 : W.frozen? ⟨g, 0, none⟩ = false
  f1 : W.frozen? ⟨g, 1, none⟩ = false
  f2 : W.frozen? ⟨g, 2, none⟩ = false
  f3 : W.frozen? ⟨g, 3, none⟩ = false
  f4 : W.frozen? ⟨g, 4, none⟩ = false
theorem C4.lt {W : World} {g : Nat} {a b c d : Int} (h : C4 W g a b c d) : g < W.heap.size := World.block_lt_of_cell? W _ h.c0
theorem C5.lt {W : World} {g : Nat} {a b c d e : Int} (h : C5 W g a b c d e) : g < W.heap.size := World.block_lt_of_cell? W _ h.c0
theorem C4.mono {W W' : World} {g : Nat} {a b c d : Int} (h : C4 W g a b c d) (hb : Below W.heap.size W W') : C4 W' g a b c d := by
  obtain ⟨hc, hf, _⟩ := bcell hb
  have := h.lt
  exact ⟨(hc _ _ this).trans h.c0, (hc _ _ this).trans h.c1, (hc _ _ this).trans h.c2, (hc _ _ this).trans h.c3, (hf _ _ this).trans h.f0, (hf _ _ this).trans h.f1, (hf _ _ this).trans h.f2, (hf _ _ this).trans h.f3⟩
theorem C5.mono {W W' : World} {g : Nat} {a b c d e : Int} (h : C5 W g a b c d e) (hb : Below W.heap.size W W') : C5 W' g a b c d e := by
  obtain ⟨hc, hf, _⟩ := bcell hb
  have := h.lt
  exact ⟨(hc _ _ this).trans h.c0, (hc _ _ this).trans h.c1, (hc _ _ this).trans h.c2, (hc _ _ this).trans h.c3, (hc _ _ this).trans h.c4, (hf _ _ this).trans h.f0, (hf _ _ this).trans h.f1, (hf _ _ this).trans h.f2, (hf _ _ this).trans h.f3, (hf _ _ this).trans h.f4⟩

set_option maxRecDepth 100000 in
set_option maxHeartbeats 4000000 in
theorem l2low (a b c d : Int) (e : Nat) (A B C D : Int) (E : Nat) (w : World) (hx : vr a b c d = true) (he : e ≤ 60) (hl : low e a b c d = ⟨A, B, C, D, E⟩) :
    Calls Try.prog 166 #[rg a b c d, .int .i64 (e : Int)] w fun ee w' => ee = .returned (dy A B C D E) ∧ Below w.heap.size w w' := by
  have HX := hid hx
  clear hx
  have HL := hid hl
  clear hl
  go_enter Try.func166, Try.ntmps166
  go_wp2_with (fail)
  go_loopg [1] e (fun k s1 wr => ∃ a b c d : Int, k ≤ e ∧ s1 = .int .i64 (k : Int) ∧ Hid (vr a b c d = true ∧ low k a b c d = ⟨A, B, C, D, E⟩) ∧ C4 wr w.heap.size a b c d ∧ C5 wr (w.heap.size + 1) 0 0 0 0 0 ∧ Below w.heap.size w wr)
  case atStart => exact ⟨a, b, c, d, Nat.le_refl _, rfl, ⟨HX.out, HL.out⟩, ⟨by (first | rfl | assumption | (go_simp; done) | (simp (disch := (first | omega | (simp; done) | (simp; omega))) [go_sem, *]; done)), by (first | rfl | assumption | (go_simp; done) | (simp (disch := (first | omega | (simp; done) | (simp; omega))) [go_sem, *]; done)), by (first | rfl | assumption | (go_simp; done) | (simp (disch := (first | omega | (simp; done) | (simp; omega))) [go_sem, *]; done)), by (first | rfl | assumption | (go_simp; done) | (simp (disch := (first | omega | (simp; done) | (simp; omega))) [go_sem, *]; done)), by (first | rfl | assumption | (go_simp; done) | (simp (disch := (first | omega | (simp; done) | (simp; omega))) [go_sem, *]; done)), by (first | rfl | assumption | (go_simp; done) | (simp (disch := (first | omega | (simp; done) | (simp; omega))) [go_sem, *]; done)), by (first | rfl | assumption | (go_simp; done) | (simp (disch := (first | omega | (simp; done) | (simp; omega))) [go_sem, *]; done)), by (first | rfl | assumption | (go_simp; done) | (simp (disch := (first | omega | (simp; done) | (simp; omega))) [go_sem, *]; done))⟩, ⟨by (first | rfl | assumption | (go_simp; done) | (simp (disch := (first | omega | (simp; done) | (simp; omega))) [go_sem, *]; done)), by (first | rfl | assumption | (go_simp; done) | (simp (disch := (first | omega | (simp; done) | (simp; omega))) [go_sem, *]; done)), by (first | rfl | assumption | (go_simp; done) | (simp (disch := (first | omega | (simp; done) | (simp; omega))) [go_sem, *]; done)), by (first | rfl | assumption | (go_simp; done) | (simp (disch := (first | omega | (simp; done) | (simp; omega))) [go_sem, *]; done)), by (first | rfl | assumption | (go_simp; done) | (simp (disch := (first | omega | (simp; done) | (simp; omega))) [go_sem, *]; done)), by (first | rfl | assumption | (go_simp; done) | (simp (disch := (first | omega | (simp; done) | (simp; omega))) [go_sem, *]; done)), by (first | rfl | assumption | (go_simp; done) | (simp (disch := (first | omega | (simp; done) | (simp; omega))) [go_sem, *]; done)), by (first | rfl | assumption | (go_simp; done) | (simp (disch := (first | omega | (simp; done) | (simp; omega))) [go_sem, *]; done)), by (first | rfl | assumption | (go_simp; done) | (simp (disch := (first | omega | (simp; done) | (simp; omega))) [go_sem, *]; done)), by (first | rfl | assumption | (go_simp; done) | (simp (disch := (first | omega | (simp; done) | (simp; omega))) [go_sem, *]; done))⟩, by (repeat' (first | (with_reducible exact Below.refl _ _) | (with_reducible refine Below.alloc ?_ ?_ _) | (with_reducible refine Below.drew ?_) | (with_reducible refine Below.setCell ?_ ?_ _) | (with_reducible refine chain ?_ (by assumption) ?_) | omega | (simp; done) | (simp; omega)))⟩
  case round =>
    obtain ⟨a', b', c', d', hk, rfl, HR, hC4, hC5, hB⟩ := hrel
    have hl4 := hC4.lt
    have hl5 := hC5.lt
    obtain ⟨q0, q1, q2, q3, q4, q5, q6, q7⟩ := hC4
    obtain ⟨r0, r1, r2, r3, r4, r5, r6, r7, r8, r9⟩ := hC5
    cases gk with
    | zero =>
      go_wp2_with (fail)
      have HR2 := HR.out.2
      simp only [low, Dy.mk.injEq] at HR2
      obtain ⟨rfl, rfl, rfl, rfl, rfl⟩ := HR2
      refine bodyPost_ret (v := dy a' b' c' d' 0) (by first | (simp [results, Try.results166, go_sem, *]; done) | (simp (disch := (first | omega | (simp; done) | (simp; omega))) [results, Try.results166, go_sem, *]; done) | (simp only [results, Try.results166]; go_simp; done)) rfl ⟨by first | rfl | simp, ?_⟩
      repeat' (first | (with_reducible exact Below.refl _ _) | (with_reducible refine Below.alloc ?_ ?_ _) | (with_reducible refine Below.drew ?_) | (with_reducible refine Below.setCell ?_ ?_ _) | (with_reducible refine chain ?_ (by assumption) ?_) | omega | (simp; done) | (simp; omega))
    | succ n =>
      have hn0 : (0 : Int) < (n : Int) + 1 := by omega
      have hn1 : (n : Int) ≤ 60 := by omega
      cases hv : ev2 a' b' c' d'
      · have HV := hid hv
        clear hv
        go_wp2_with (first | (go_at_call 156; ((with_reducible refine (evf _ HV.out HR.out.1).mono ?_); rintro ee w1 ⟨rfl, hb1⟩; obtain ⟨hc1, hf1, _⟩ := bcell hb1; have hz1 := hb1.size; (try simp at hz1); (try have ho1a : w.heap.size < w1.heap.size := (by omega)); (try have ho1b : w.heap.size + 1 < w1.heap.size := (by omega)))) | fail)
        have HR2 := HR.out.2
        rw [low, if_neg (by rw [HV.out]; decide)] at HR2
        simp only [Dy.mk.injEq] at HR2
        obtain ⟨rfl, rfl, rfl, rfl, rfl⟩ := HR2
        refine bodyPost_ret (v := dy a' b' c' d' ((n : Int) + 1)) (by first | (simp [results, Try.results166, go_sem, *]; done) | (simp (disch := (first | omega | (simp; done) | (simp; omega))) [results, Try.results166, go_sem, *]; done) | (simp only [results, Try.results166]; go_simp; done)) rfl ⟨by first | rfl | simp, ?_⟩
        repeat' (first | (with_reducible exact Below.refl _ _) | (with_reducible refine Below.alloc ?_ ?_ _) | (with_reducible refine Below.drew ?_) | (with_reducible refine Below.setCell ?_ ?_ _) | (with_reducible refine chain ?_ (by assumption) ?_) | omega | (simp; done) | (simp; omega))
      · have HV := hid hv
        clear hv
        go_wp2_with (first | (go_at_call 156; ((with_reducible refine (evt _ HV.out HR.out.1).mono ?_); rintro ee w1 ⟨rfl, hb1⟩; obtain ⟨hc1, hf1, _⟩ := bcell hb1; have hz1 := hb1.size; (try simp at hz1); (try have ho1a : w.heap.size < w1.heap.size := (by omega)); (try have ho1b : w.heap.size + 1 < w1.heap.size := (by omega)))) | (go_at_call 198; ((with_reducible refine (hf _ _ _ _ _ HR.out.1).mono ?_); rintro ee w2 ⟨rfl, hb2⟩; obtain ⟨hc2, hf2, _⟩ := bcell hb2; have hz2 := hb2.size; (try simp at hz2); (try have ho2a : w.heap.size < w2.heap.size := (by omega)); (try have ho2b : w.heap.size + 1 < w2.heap.size := (by omega)))) | fail)
        go_roundg n
        case measure => omega
        case rel =>
          have HR2 := HR.out.2
          rw [low, if_pos HV.out] at HR2
          exact ⟨_, _, _, _, by omega, by first | rfl | (simp; done) | (simp; omega), ⟨vr_half HR.out.1, HR2⟩, ⟨by (first | rfl | assumption | (go_simp; done) | (simp (disch := (first | omega | (simp; done) | (simp; omega))) [go_sem, *]; done)), by (first | rfl | assumption | (go_simp; done) | (simp (disch := (first | omega | (simp; done) | (simp; omega))) [go_sem, *]; done)), by (first | rfl | assumption | (go_simp; done) | (simp (disch := (first | omega | (simp; done) | (simp; omega))) [go_sem, *]; done)), by (first | rfl | assumption | (go_simp; done) | (simp (disch := (first | omega | (simp; done) | (simp; omega))) [go_sem, *]; done)), by (first | rfl | assumption | (go_simp; done) | (simp (disch := (first | omega | (simp; done) | (simp; omega))) [go_sem, *]; done)), by (first | rfl | assumption | (go_simp; done) | (simp (disch := (first | omega | (simp; done) | (simp; omega))) [go_sem, *]; done)), by (first | rfl | assumption | (go_simp; done) | (simp (disch := (first | omega | (simp; done) | (simp; omega))) [go_sem, *]; done)), by (first | rfl | assumption | (go_simp; done) | (simp (disch := (first | omega | (simp; done) | (simp; omega))) [go_sem, *]; done))⟩, ⟨by (first | rfl | assumption | (go_simp; done) | (simp (disch := (first | omega | (simp; done) | (simp; omega))) [go_sem, *]; done)), by (first | rfl | assumption | (go_simp; done) | (simp (disch := (first | omega | (simp; done) | (simp; omega))) [go_sem, *]; done)), by (first | rfl | assumption | (go_simp; done) | (simp (disch := (first | omega | (simp; done) | (simp; omega))) [go_sem, *]; done)), by (first | rfl | assumption | (go_simp; done) | (simp (disch := (first | omega | (simp; done) | (simp; omega))) [go_sem, *]; done)), by (first | rfl | assumption | (go_simp; done) | (simp (disch := (first | omega | (simp; done) | (simp; omega))) [go_sem, *]; done)), by (first | rfl | assumption | (go_simp; done) | (simp (disch := (first | omega | (simp; done) | (simp; omega))) [go_sem, *]; done)), by (first | rfl | assumption | (go_simp; done) | (simp (disch := (first | omega | (simp; done) | (simp; omega))) [go_sem, *]; done)), by (first | rfl | assumption | (go_simp; done) | (simp (disch := (first | omega | (simp; done) | (simp; omega))) [go_sem, *]; done)), by (first | rfl | assumption | (go_simp; done) | (simp (disch := (first | omega | (simp; done) | (simp; omega))) [go_sem, *]; done)), by (first | rfl | assumption | (go_simp; done) | (simp (disch := (first | omega | (simp; done) | (simp; omega))) [go_sem, *]; done))⟩, by (repeat' (first | (with_reducible exact Below.refl _ _) | (with_reducible refine Below.alloc ?_ ?_ _) | (with_reducible refine Below.drew ?_) | (with_reducible refine Below.setCell ?_ ?_ _) | (with_reducible refine chain ?_ (by assumption) ?_) | omega | (simp; done) | (simp; omega)))⟩
end Go.Proofs.Ytofclfgaekjonaa
