/- Rais, SubA -/
import Derived.Test.YtncgccpkbneagaaZlow
import Derived.Test.YtncgccpkbneagaaRootA
import Derived.Deep.LoopGhost
import Derived.Test.YtncgccpkbneagaaProd
import Derived.Test.YtncgccpkbneagaaZhld
import Derived.Deep.RegionWith
namespace Go.Proofs.Ytncgccpkbneagaa
open Go.RowKit RM
set_option linter.unusedVariables false
set_option linter.unusedSimpArgs false
attribute [local irreducible] World.setCell
def rres : Option R4 → Value
  | some r => rt r.a r.b r.c r.d true
  | none => rt 0 0 0 0 false

set_option maxRecDepth 100000 in
set_option maxHeartbeats 4000000 in
theorem rsn (a b c d : Int) (n : Nat) (R : Option R4) (w : World) (hx : vr a b c d = true) (he : n ≤ 60) (hl : rais n a b c d = R) :
    Calls Try.prog 126 #[rg a b c d, .int .i64 (n : Int)] w fun ee w' => ee = .returned (rres R) ∧ Below w.heap.size w w' := by
  have HX := hid hx
  clear hx
  have HL := hid hl
  clear hl
  have he3 : (n : Int) ≤ 60 := by omega
  go_enter Try.func126, Try.ntmps126
  go_wp2_with (fail)
  go_loopg [9] n (fun k s9 wr => ∃ (a b c d : Int) (j : Nat), j + k = n ∧ s9 = .int .i64 (j : Int) ∧ Hid (vr a b c d = true ∧ rais k a b c d = R) ∧ C4 wr w.heap.size a b c d ∧ C4 wr (w.heap.size + 1) 0 0 0 0 ∧ Below w.heap.size w wr)
  case atStart => exact ⟨a, b, c, d, 0, by omega, by first | rfl | simp, ⟨HX.out, HL.out⟩, ⟨by (first | rfl | assumption | (go_simp; done) | (simp (disch := (first | omega | (simp; done) | (simp; omega))) [go_sem, *]; done)), by (first | rfl | assumption | (go_simp; done) | (simp (disch := (first | omega | (simp; done) | (simp; omega))) [go_sem, *]; done)), by (first | rfl | assumption | (go_simp; done) | (simp (disch := (first | omega | (simp; done) | (simp; omega))) [go_sem, *]; done)), by (first | rfl | assumption | (go_simp; done) | (simp (disch := (first | omega | (simp; done) | (simp; omega))) [go_sem, *]; done)), by (first | rfl | assumption | (go_simp; done) | (simp (disch := (first | omega | (simp; done) | (simp; omega))) [go_sem, *]; done)), by (first | rfl | assumption | (go_simp; done) | (simp (disch := (first | omega | (simp; done) | (simp; omega))) [go_sem, *]; done)), by (first | rfl | assumption | (go_simp; done) | (simp (disch := (first | omega | (simp; done) | (simp; omega))) [go_sem, *]; done)), by (first | rfl | assumption | (go_simp; done) | (simp (disch := (first | omega | (simp; done) | (simp; omega))) [go_sem, *]; done))⟩, ⟨by (first | rfl | assumption | (go_simp; done) | (simp (disch := (first | omega | (simp; done) | (simp; omega))) [go_sem, *]; done)), by (first | rfl | assumption | (go_simp; done) | (simp (disch := (first | omega | (simp; done) | (simp; omega))) [go_sem, *]; done)), by (first | rfl | assumption | (go_simp; done) | (simp (disch := (first | omega | (simp; done) | (simp; omega))) [go_sem, *]; done)), by (first | rfl | assumption | (go_simp; done) | (simp (disch := (first | omega | (simp; done) | (simp; omega))) [go_sem, *]; done)), by (first | rfl | assumption | (go_simp; done) | (simp (disch := (first | omega | (simp; done) | (simp; omega))) [go_sem, *]; done)), by (first | rfl | assumption | (go_simp; done) | (simp (disch := (first | omega | (simp; done) | (simp; omega))) [go_sem, *]; done)), by (first | rfl | assumption | (go_simp; done) | (simp (disch := (first | omega | (simp; done) | (simp; omega))) [go_sem, *]; done)), by (first | rfl | assumption | (go_simp; done) | (simp (disch := (first | omega | (simp; done) | (simp; omega))) [go_sem, *]; done))⟩, by (repeat' (first | (with_reducible exact Below.refl _ _) | (with_reducible refine Below.alloc ?_ ?_ _) | (with_reducible refine Below.drew ?_) | (with_reducible refine Below.setCell ?_ ?_ _) | (with_reducible refine chain ?_ (by assumption) ?_) | omega | (simp; done) | (simp; omega)))⟩
  case round =>
    obtain ⟨a', b', c', d', j, hk, rfl, HR, hC4, hC5, hB⟩ := hrel
    have hl4 := hC4.lt
    have hl5 := hC5.lt
    obtain ⟨q0, q1, q2, q3, q4, q5, q6, q7⟩ := hC4
    obtain ⟨r0, r1, r2, r3, r4, r5, r6, r7⟩ := hC5
    cases gk with
    | zero =>
      obtain rfl : j = n := by omega
      go_wp2_with (fail)
      have HR2 := HR.out.2
      simp only [rais] at HR2
      subst HR2
      refine bodyPost_ret (v := rt a' b' c' d' true) (by first | (simp [results, Try.results126, go_sem, *]; done) | (simp (disch := (first | omega | (simp; done) | (simp; omega))) [results, Try.results126, go_sem, *]; done) | (simp only [results, Try.results126]; go_simp; done)) rfl ⟨by first | rfl | simp, ?_⟩
      repeat' (first | (with_reducible exact Below.refl _ _) | (with_reducible refine Below.alloc ?_ ?_ _) | (with_reducible refine Below.drew ?_) | (with_reducible refine Below.setCell ?_ ?_ _) | (with_reducible refine chain ?_ (by assumption) ?_) | omega | (simp; done) | (simp; omega))
    | succ m =>
      have hjn : j < n := by omega
      have hj60 : (j : Int) ≤ 60 := by omega
      cases hv : vr (b' - d') (a' + c') (b' + d') (c' - a')
      · have HV := hid hv
        clear hv
        go_wp2_with (first | (go_at_call 165; ((with_reducible refine (root_i_o _ _ _ _ _ HR.out.1 HV.out).mono ?_); rintro ee w1 ⟨rfl, hb1⟩; obtain ⟨hc1, hf1, _⟩ := bcell hb1; have hz1 := hb1.size; (try simp at hz1); (try have ho1a : w.heap.size < w1.heap.size := (by omega)); (try have ho1b : w.heap.size + 1 < w1.heap.size := (by omega)))) | fail)
        have HR2 := HR.out.2
        rw [rais, if_neg (by rw [HV.out]; decide)] at HR2
        subst HR2
        refine bodyPost_ret (v := rt 0 0 0 0 false) (by first | (simp [results, Try.results126, go_sem, *]; done) | (simp (disch := (first | omega | (simp; done) | (simp; omega))) [results, Try.results126, go_sem, *]; done) | (simp only [results, Try.results126]; go_simp; done)) rfl ⟨by first | rfl | simp, ?_⟩
        repeat' (first | (with_reducible exact Below.refl _ _) | (with_reducible refine Below.alloc ?_ ?_ _) | (with_reducible refine Below.drew ?_) | (with_reducible refine Below.setCell ?_ ?_ _) | (with_reducible refine chain ?_ (by assumption) ?_) | omega | (simp; done) | (simp; omega))
      · have HV := hid hv
        clear hv
        go_wp2_with (first | (go_at_call 165; ((with_reducible refine (root_i_t _ _ _ _ _ HR.out.1 HV.out).mono ?_); rintro ee w1 ⟨rfl, hb1⟩; obtain ⟨hc1, hf1, _⟩ := bcell hb1; have hz1 := hb1.size; (try simp at hz1); (try have ho1a : w.heap.size < w1.heap.size := (by omega)); (try have ho1b : w.heap.size + 1 < w1.heap.size := (by omega)))) | fail)
        go_roundg m
        case measure => omega
        case rel =>
          have HR2 := HR.out.2
          rw [rais, if_pos HV.out] at HR2
          exact ⟨_, _, _, _, j + 1, by omega, by first | rfl | (simp; done) | go_num, ⟨HV.out, HR2⟩, ⟨by (first | rfl | assumption | (go_simp; done) | (simp (disch := (first | omega | (simp; done) | (simp; omega))) [go_sem, *]; done)), by (first | rfl | assumption | (go_simp; done) | (simp (disch := (first | omega | (simp; done) | (simp; omega))) [go_sem, *]; done)), by (first | rfl | assumption | (go_simp; done) | (simp (disch := (first | omega | (simp; done) | (simp; omega))) [go_sem, *]; done)), by (first | rfl | assumption | (go_simp; done) | (simp (disch := (first | omega | (simp; done) | (simp; omega))) [go_sem, *]; done)), by (first | rfl | assumption | (go_simp; done) | (simp (disch := (first | omega | (simp; done) | (simp; omega))) [go_sem, *]; done)), by (first | rfl | assumption | (go_simp; done) | (simp (disch := (first | omega | (simp; done) | (simp; omega))) [go_sem, *]; done)), by (first | rfl | assumption | (go_simp; done) | (simp (disch := (first | omega | (simp; done) | (simp; omega))) [go_sem, *]; done)), by (first | rfl | assumption | (go_simp; done) | (simp (disch := (first | omega | (simp; done) | (simp; omega))) [go_sem, *]; done))⟩, ⟨by (first | rfl | assumption | (go_simp; done) | (simp (disch := (first | omega | (simp; done) | (simp; omega))) [go_sem, *]; done)), by (first | rfl | assumption | (go_simp; done) | (simp (disch := (first | omega | (simp; done) | (simp; omega))) [go_sem, *]; done)), by (first | rfl | assumption | (go_simp; done) | (simp (disch := (first | omega | (simp; done) | (simp; omega))) [go_sem, *]; done)), by (first | rfl | assumption | (go_simp; done) | (simp (disch := (first | omega | (simp; done) | (simp; omega))) [go_sem, *]; done)), by (first | rfl | assumption | (go_simp; done) | (simp (disch := (first | omega | (simp; done) | (simp; omega))) [go_sem, *]; done)), by (first | rfl | assumption | (go_simp; done) | (simp (disch := (first | omega | (simp; done) | (simp; omega))) [go_sem, *]; done)), by (first | rfl | assumption | (go_simp; done) | (simp (disch := (first | omega | (simp; done) | (simp; omega))) [go_sem, *]; done)), by (first | rfl | assumption | (go_simp; done) | (simp (disch := (first | omega | (simp; done) | (simp; omega))) [go_sem, *]; done))⟩, by (repeat' (first | (with_reducible exact Below.refl _ _) | (with_reducible refine Below.alloc ?_ ?_ _) | (with_reducible refine Below.drew ?_) | (with_reducible refine Below.setCell ?_ ?_ _) | (with_reducible refine chain ?_ (by assumption) ?_) | omega | (simp; done) | (simp; omega)))⟩
end Go.Proofs.Ytncgccpkbneagaa
namespace Go.Proofs.Ytncgccpkbneagaa
open Go.RowKit RM
set_option linter.unusedVariables false
set_option linter.unusedSimpArgs false

set_option maxRecDepth 100000 in
set_option maxHeartbeats 1000000 in
theorem la (a b c d p q r s : Int) (w : World) (hx : vr a b c d = true) (hy : vr p q r s = true) :
    Calls Try.prog 132 #[rg a b c d, rg p q r s] w fun e w' => e = .returned (rg (a + p) (b + q) (c + r) (d + s)) ∧ Below w.heap.size w w' := by
  obtain ⟨⟨a1, a2⟩, ⟨b1, b2⟩, ⟨c1, c2⟩, ⟨d1, d2⟩⟩ := vr_iff.1 hx
  obtain ⟨⟨p1, p2⟩, ⟨q1, q2⟩, ⟨r1, r2⟩, ⟨s1, s2⟩⟩ := vr_iff.1 hy
  have HX := hid hx
  clear hx
  have HY := hid hy
  clear hy
  go_enter Try.func132, Try.ntmps132
  go_wp2_with (first | go_in)
  refine bodyPost_ret (v := rg (a + p) (b + q) (c + r) (d + s)) (by first | (simp [results, Try.results132, go_sem, *]; done) | (simp (disch := (first | omega | (simp; done) | (simp; omega))) [results, Try.results132, go_sem, *]; done) | (simp only [results, Try.results132]; go_simp; done)) rfl ⟨rfl, ?_⟩
  repeat' (first | (with_reducible exact Below.refl _ _) | (with_reducible refine Below.alloc ?_ ?_ _) | (with_reducible refine Below.drew ?_) | (with_reducible refine Below.setCell ?_ ?_ _) | (with_reducible refine chain ?_ (by assumption) ?_) | omega | (simp; done) | (simp; omega))

theorem vr_neg {p q r s : Int} (h : vr p q r s = true) : vr (-p) (-q) (-r) (-s) = true := by
  rw [vr_iff] at *; omega
end Go.Proofs.Ytncgccpkbneagaa
