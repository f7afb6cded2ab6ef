/- Contracts of SubDyadic, of CompareAbs, whatever the inner calls give. -/
import Derived.Test.YtefmglofnoinmaaDyV
import Derived.Test.YtefmglofnoinmaaSubA
import Derived.Test.YtefmglofnoinmaaSign
import Derived.Test.YtefmglofnoinmaaSignB
import Derived.Deep.LoopGhost
namespace Go.Proofs.Ytefmglofnoinmaa
open Go.RowKit RM
set_option linter.unusedVariables false
set_option linter.unusedSimpArgs false
attribute [local irreducible] World.setCell

theorem neg_i {p q r s : Int} (w : World) (h : vr p q r s = true) :
    Calls Try.prog 87 #[rg 0 0 0 0, rg p q r s] w fun ee w' => ee = .returned (rt (-p) (-q) (-r) (-s) true) ∧ Below w.heap.size w w' := by
  have := sub_i_t 0 0 0 0 p q r s w (by decide) h (by simpa using vr_neg h)
  simpa using this
theorem neg_i_f {p q r s : Int} (w : World) (h : vr p q r s = false) :
    Calls Try.prog 87 #[rg 0 0 0 0, rg p q r s] w fun ee w' => ee = .returned (rt 0 0 0 0 false) ∧ Below w.heap.size w w' :=
  sub_i_f2 0 0 0 0 p q r s w (by decide) h

set_option maxRecDepth 100000 in
set_option maxHeartbeats 4000000 in
theorem subD_i (a b c d e p q r s t r0 r1 r2 r3 r4 : Int) (ok : Bool) (w : World) (hy : vr p q r s = true) (hm : ∀ w : World, Calls Try.prog 42 #[dy a b c d e, dy (-p) (-q) (-r) (-s) t] w fun ee w' => ee = .returned (dt r0 r1 r2 r3 r4 ok) ∧ Below w.heap.size w w') :
    Calls Try.prog 44 #[dy a b c d e, dy p q r s t] w fun ee w' => ee = .returned (dt r0 r1 r2 r3 r4 ok) ∧ Below w.heap.size w w' := by
  have HY := hid hy
  clear hy
  have HM := hid hm
  clear hm
  go_enter Try.func44, Try.ntmps44
  go_wp2_with (first | (go_at_call 87; ((with_reducible refine (neg_i _ HY.out).mono ?_); rintro ee w1 ⟨rfl, hb1⟩; obtain ⟨hc1, hf1, _⟩ := bcell hb1; have hz1 := hb1.size; (try simp at hz1); (try have hx10 : w.heap.size < w1.heap.size := (by omega)); (try have hx11 : w.heap.size + 1 < w1.heap.size := (by omega)); (try have hx12 : w.heap.size + 1 + 1 < w1.heap.size := (by omega)); (try have hx13 : w.heap.size + 1 + 1 + 1 < w1.heap.size := (by omega)))) | (go_at_call 42; ((with_reducible refine (HM.out _).mono ?_); rintro ee w2 ⟨rfl, hb2⟩; obtain ⟨hc2, hf2, _⟩ := bcell hb2; have hz2 := hb2.size; (try simp at hz2); (try have hx20 : w.heap.size < w2.heap.size := (by omega)); (try have hx21 : w.heap.size + 1 < w2.heap.size := (by omega)); (try have hx22 : w.heap.size + 1 + 1 < w2.heap.size := (by omega)); (try have hx23 : w.heap.size + 1 + 1 + 1 < w2.heap.size := (by omega)))) | go_in)
  refine bodyPost_ret (v := dt r0 r1 r2 r3 r4 ok) (by first | (simp [results, Try.results44, go_sem, *]; done) | (simp (disch := (first | omega | (simp; done) | (simp; omega))) [results, Try.results44, go_sem, *]; done) | (simp only [results, Try.results44]; go_simp; done)) rfl ⟨rfl, ?_⟩
  repeat' (first | (with_reducible exact Below.refl _ _) | (with_reducible refine Below.alloc ?_ ?_ _) | (with_reducible refine Below.drew ?_) | (with_reducible refine Below.setCell ?_ ?_ _) | (with_reducible refine chain ?_ (by assumption) ?_) | omega | (simp; done) | (simp; omega))

set_option maxRecDepth 100000 in
set_option maxHeartbeats 4000000 in
theorem subD_i_f (a b c d e p q r s t : Int) (w : World) (hy : vr p q r s = false) :
    Calls Try.prog 44 #[dy a b c d e, dy p q r s t] w fun ee w' => ee = .returned (dt 0 0 0 0 0 false) ∧ Below w.heap.size w w' := by
  have HY := hid hy
  clear hy
  go_enter Try.func44, Try.ntmps44
  go_wp2_with (first | (go_at_call 87; ((with_reducible refine (neg_i_f _ HY.out).mono ?_); rintro ee w1 ⟨rfl, hb1⟩; obtain ⟨hc1, hf1, _⟩ := bcell hb1; have hz1 := hb1.size; (try simp at hz1); (try have hx10 : w.heap.size < w1.heap.size := (by omega)); (try have hx11 : w.heap.size + 1 < w1.heap.size := (by omega)); (try have hx12 : w.heap.size + 1 + 1 < w1.heap.size := (by omega)); (try have hx13 : w.heap.size + 1 + 1 + 1 < w1.heap.size := (by omega)))) | go_in)
  refine bodyPost_ret (v := dt 0 0 0 0 0 false) (by first | (simp [results, Try.results44, go_sem, *]; done) | (simp (disch := (first | omega | (simp; done) | (simp; omega))) [results, Try.results44, go_sem, *]; done) | (simp only [results, Try.results44]; go_simp; done)) rfl ⟨rfl, ?_⟩
  repeat' (first | (with_reducible exact Below.refl _ _) | (with_reducible refine Below.alloc ?_ ?_ _) | (with_reducible refine Below.drew ?_) | (with_reducible refine Below.setCell ?_ ?_ _) | (with_reducible refine chain ?_ (by assumption) ?_) | omega | (simp; done) | (simp; omega))

set_option maxRecDepth 100000 in
set_option maxHeartbeats 8000000 in
theorem cmpD_i (a b c d e p q r s t : Int) (l0 l1 l2 l3 l4 k0 k1 k2 k3 k4 r0 r1 r2 r3 r4 : Int) (w : World) (hm : ∀ w : World, Calls Try.prog 57 #[dy a b c d e] w fun ee w' => ee = .returned (dt l0 l1 l2 l3 l4 true) ∧ Below w.heap.size w w') (hn : ∀ w : World, Calls Try.prog 57 #[dy p q r s t] w fun ee w' => ee = .returned (dt k0 k1 k2 k3 k4 true) ∧ Below w.heap.size w w') (hs : ∀ w : World, Calls Try.prog 44 #[dy l0 l1 l2 l3 l4, dy k0 k1 k2 k3 k4] w fun ee w' => ee = .returned (dt r0 r1 r2 r3 r4 true) ∧ Below w.heap.size w w') (hp : vp r0 r1 = true) :
    Calls Try.prog 39 #[dy a b c d e, dy p q r s t] w fun ee w' => ee = .returned (.tuple #[.int .i64 (sgn (ssq r0 + 2 * ssq r1)), .bool true]) ∧ Below w.heap.size w w' := by
  have HM := hid hm
  clear hm
  have HN := hid hn
  clear hn
  have HS := hid hs
  clear hs
  have HP := hid hp
  clear hp
  go_enter Try.func39, Try.ntmps39
  go_wp2_with (first | (go_at_call 57; ((with_reducible refine (HM.out _).mono ?_); rintro ee w1 ⟨rfl, hb1⟩; obtain ⟨hc1, hf1, _⟩ := bcell hb1; have hz1 := hb1.size; (try simp at hz1); (try have hx10 : w.heap.size < w1.heap.size := (by omega)); (try have hx11 : w.heap.size + 1 < w1.heap.size := (by omega)); (try have hx12 : w.heap.size + 1 + 1 < w1.heap.size := (by omega)); (try have hx13 : w.heap.size + 1 + 1 + 1 < w1.heap.size := (by omega)))) | (go_at_call 57; ((with_reducible refine (HN.out _).mono ?_); rintro ee w2 ⟨rfl, hb2⟩; obtain ⟨hc2, hf2, _⟩ := bcell hb2; have hz2 := hb2.size; (try simp at hz2); (try have hx20 : w.heap.size < w2.heap.size := (by omega)); (try have hx21 : w.heap.size + 1 < w2.heap.size := (by omega)); (try have hx22 : w.heap.size + 1 + 1 < w2.heap.size := (by omega)); (try have hx23 : w.heap.size + 1 + 1 + 1 < w2.heap.size := (by omega)); (try have ho2w1 : w1.heap.size < w2.heap.size := (by omega)))) | (go_at_call 44; ((with_reducible refine (HS.out _).mono ?_); rintro ee w3 ⟨rfl, hb3⟩; obtain ⟨hc3, hf3, _⟩ := bcell hb3; have hz3 := hb3.size; (try simp at hz3); (try have hx30 : w.heap.size < w3.heap.size := (by omega)); (try have hx31 : w.heap.size + 1 < w3.heap.size := (by omega)); (try have hx32 : w.heap.size + 1 + 1 < w3.heap.size := (by omega)); (try have hx33 : w.heap.size + 1 + 1 + 1 < w3.heap.size := (by omega)); (try have ho3w2 : w2.heap.size < w3.heap.size := (by omega)); (try have ho3w1 : w1.heap.size < w3.heap.size := (by omega)))) | (go_at_call 59; ((with_reducible refine (rs_i_t _ _ _ HP.out).mono ?_); rintro ee w4 ⟨rfl, hb4⟩; obtain ⟨hc4, hf4, _⟩ := bcell hb4; have hz4 := hb4.size; (try simp at hz4); (try have hx40 : w.heap.size < w4.heap.size := (by omega)); (try have hx41 : w.heap.size + 1 < w4.heap.size := (by omega)); (try have hx42 : w.heap.size + 1 + 1 < w4.heap.size := (by omega)); (try have hx43 : w.heap.size + 1 + 1 + 1 < w4.heap.size := (by omega)); (try have ho4w3 : w3.heap.size < w4.heap.size := (by omega)); (try have ho4w2 : w2.heap.size < w4.heap.size := (by omega)); (try have ho4w1 : w1.heap.size < w4.heap.size := (by omega)))) | go_in)
  refine bodyPost_ret (v := .tuple #[.int .i64 (sgn (ssq r0 + 2 * ssq r1)), .bool true]) (by first | (simp [results, Try.results39, go_sem, *]; done) | (simp (disch := (first | omega | (simp; done) | (simp; omega))) [results, Try.results39, go_sem, *]; done) | (simp only [results, Try.results39]; go_simp; done)) rfl ⟨rfl, ?_⟩
  repeat' (first | (with_reducible exact Below.refl _ _) | (with_reducible refine Below.alloc ?_ ?_ _) | (with_reducible refine Below.drew ?_) | (with_reducible refine Below.setCell ?_ ?_ _) | (with_reducible refine chain ?_ (by assumption) ?_) | omega | (simp; done) | (simp; omega))

set_option maxRecDepth 100000 in
set_option maxHeartbeats 4000000 in
theorem cmpD_i_1 (a b c d e p q r s t : Int) (w : World) (hm : ∀ w : World, Calls Try.prog 57 #[dy a b c d e] w fun ee w' => ee = .returned (dt 0 0 0 0 0 false) ∧ Below w.heap.size w w') :
    Calls Try.prog 39 #[dy a b c d e, dy p q r s t] w fun ee w' => ee = .returned (.tuple #[.int .i64 0, .bool false]) ∧ Below w.heap.size w w' := by
  have HM := hid hm
  clear hm
  go_enter Try.func39, Try.ntmps39
  go_wp2_with (first | (go_at_call 57; ((with_reducible refine (HM.out _).mono ?_); rintro ee w1 ⟨rfl, hb1⟩; obtain ⟨hc1, hf1, _⟩ := bcell hb1; have hz1 := hb1.size; (try simp at hz1); (try have hx10 : w.heap.size < w1.heap.size := (by omega)); (try have hx11 : w.heap.size + 1 < w1.heap.size := (by omega)); (try have hx12 : w.heap.size + 1 + 1 < w1.heap.size := (by omega)); (try have hx13 : w.heap.size + 1 + 1 + 1 < w1.heap.size := (by omega)))) | go_in)
  refine bodyPost_ret (v := .tuple #[.int .i64 0, .bool false]) (by first | (simp [results, Try.results39, go_sem, *]; done) | (simp (disch := (first | omega | (simp; done) | (simp; omega))) [results, Try.results39, go_sem, *]; done) | (simp only [results, Try.results39]; go_simp; done)) rfl ⟨rfl, ?_⟩
  repeat' (first | (with_reducible exact Below.refl _ _) | (with_reducible refine Below.alloc ?_ ?_ _) | (with_reducible refine Below.drew ?_) | (with_reducible refine Below.setCell ?_ ?_ _) | (with_reducible refine chain ?_ (by assumption) ?_) | omega | (simp; done) | (simp; omega))

set_option maxRecDepth 100000 in
set_option maxHeartbeats 4000000 in
theorem cmpD_i_2 (a b c d e p q r s t : Int) (l0 l1 l2 l3 l4 : Int) (w : World) (hm : ∀ w : World, Calls Try.prog 57 #[dy a b c d e] w fun ee w' => ee = .returned (dt l0 l1 l2 l3 l4 true) ∧ Below w.heap.size w w') (hn : ∀ w : World, Calls Try.prog 57 #[dy p q r s t] w fun ee w' => ee = .returned (dt 0 0 0 0 0 false) ∧ Below w.heap.size w w') :
    Calls Try.prog 39 #[dy a b c d e, dy p q r s t] w fun ee w' => ee = .returned (.tuple #[.int .i64 0, .bool false]) ∧ Below w.heap.size w w' := by
  have HM := hid hm
  clear hm
  have HN := hid hn
  clear hn
  go_enter Try.func39, Try.ntmps39
  go_wp2_with (first | (go_at_call 57; ((with_reducible refine (HM.out _).mono ?_); rintro ee w1 ⟨rfl, hb1⟩; obtain ⟨hc1, hf1, _⟩ := bcell hb1; have hz1 := hb1.size; (try simp at hz1); (try have hx10 : w.heap.size < w1.heap.size := (by omega)); (try have hx11 : w.heap.size + 1 < w1.heap.size := (by omega)); (try have hx12 : w.heap.size + 1 + 1 < w1.heap.size := (by omega)); (try have hx13 : w.heap.size + 1 + 1 + 1 < w1.heap.size := (by omega)))) | (go_at_call 57; ((with_reducible refine (HN.out _).mono ?_); rintro ee w2 ⟨rfl, hb2⟩; obtain ⟨hc2, hf2, _⟩ := bcell hb2; have hz2 := hb2.size; (try simp at hz2); (try have hx20 : w.heap.size < w2.heap.size := (by omega)); (try have hx21 : w.heap.size + 1 < w2.heap.size := (by omega)); (try have hx22 : w.heap.size + 1 + 1 < w2.heap.size := (by omega)); (try have hx23 : w.heap.size + 1 + 1 + 1 < w2.heap.size := (by omega)); (try have ho2w1 : w1.heap.size < w2.heap.size := (by omega)))) | go_in)
  refine bodyPost_ret (v := .tuple #[.int .i64 0, .bool false]) (by first | (simp [results, Try.results39, go_sem, *]; done) | (simp (disch := (first | omega | (simp; done) | (simp; omega))) [results, Try.results39, go_sem, *]; done) | (simp only [results, Try.results39]; go_simp; done)) rfl ⟨rfl, ?_⟩
  repeat' (first | (with_reducible exact Below.refl _ _) | (with_reducible refine Below.alloc ?_ ?_ _) | (with_reducible refine Below.drew ?_) | (with_reducible refine Below.setCell ?_ ?_ _) | (with_reducible refine chain ?_ (by assumption) ?_) | omega | (simp; done) | (simp; omega))

set_option maxRecDepth 100000 in
set_option maxHeartbeats 8000000 in
theorem cmpD_i_3 (a b c d e p q r s t : Int) (l0 l1 l2 l3 l4 k0 k1 k2 k3 k4 : Int) (w : World) (hm : ∀ w : World, Calls Try.prog 57 #[dy a b c d e] w fun ee w' => ee = .returned (dt l0 l1 l2 l3 l4 true) ∧ Below w.heap.size w w') (hn : ∀ w : World, Calls Try.prog 57 #[dy p q r s t] w fun ee w' => ee = .returned (dt k0 k1 k2 k3 k4 true) ∧ Below w.heap.size w w') (hs : ∀ w : World, Calls Try.prog 44 #[dy l0 l1 l2 l3 l4, dy k0 k1 k2 k3 k4] w fun ee w' => ee = .returned (dt 0 0 0 0 0 false) ∧ Below w.heap.size w w') :
    Calls Try.prog 39 #[dy a b c d e, dy p q r s t] w fun ee w' => ee = .returned (.tuple #[.int .i64 0, .bool false]) ∧ Below w.heap.size w w' := by
  have HM := hid hm
  clear hm
  have HN := hid hn
  clear hn
  have HS := hid hs
  clear hs
  go_enter Try.func39, Try.ntmps39
  go_wp2_with (first | (go_at_call 57; ((with_reducible refine (HM.out _).mono ?_); rintro ee w1 ⟨rfl, hb1⟩; obtain ⟨hc1, hf1, _⟩ := bcell hb1; have hz1 := hb1.size; (try simp at hz1); (try have hx10 : w.heap.size < w1.heap.size := (by omega)); (try have hx11 : w.heap.size + 1 < w1.heap.size := (by omega)); (try have hx12 : w.heap.size + 1 + 1 < w1.heap.size := (by omega)); (try have hx13 : w.heap.size + 1 + 1 + 1 < w1.heap.size := (by omega)))) | (go_at_call 57; ((with_reducible refine (HN.out _).mono ?_); rintro ee w2 ⟨rfl, hb2⟩; obtain ⟨hc2, hf2, _⟩ := bcell hb2; have hz2 := hb2.size; (try simp at hz2); (try have hx20 : w.heap.size < w2.heap.size := (by omega)); (try have hx21 : w.heap.size + 1 < w2.heap.size := (by omega)); (try have hx22 : w.heap.size + 1 + 1 < w2.heap.size := (by omega)); (try have hx23 : w.heap.size + 1 + 1 + 1 < w2.heap.size := (by omega)); (try have ho2w1 : w1.heap.size < w2.heap.size := (by omega)))) | (go_at_call 44; ((with_reducible refine (HS.out _).mono ?_); rintro ee w3 ⟨rfl, hb3⟩; obtain ⟨hc3, hf3, _⟩ := bcell hb3; have hz3 := hb3.size; (try simp at hz3); (try have hx30 : w.heap.size < w3.heap.size := (by omega)); (try have hx31 : w.heap.size + 1 < w3.heap.size := (by omega)); (try have hx32 : w.heap.size + 1 + 1 < w3.heap.size := (by omega)); (try have hx33 : w.heap.size + 1 + 1 + 1 < w3.heap.size := (by omega)); (try have ho3w2 : w2.heap.size < w3.heap.size := (by omega)); (try have ho3w1 : w1.heap.size < w3.heap.size := (by omega)))) | go_in)
  refine bodyPost_ret (v := .tuple #[.int .i64 0, .bool false]) (by first | (simp [results, Try.results39, go_sem, *]; done) | (simp (disch := (first | omega | (simp; done) | (simp; omega))) [results, Try.results39, go_sem, *]; done) | (simp only [results, Try.results39]; go_simp; done)) rfl ⟨rfl, ?_⟩
  repeat' (first | (with_reducible exact Below.refl _ _) | (with_reducible refine Below.alloc ?_ ?_ _) | (with_reducible refine Below.drew ?_) | (with_reducible refine Below.setCell ?_ ?_ _) | (with_reducible refine chain ?_ (by assumption) ?_) | omega | (simp; done) | (simp; omega))
end Go.Proofs.Ytefmglofnoinmaa
