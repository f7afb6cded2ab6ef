/- MulDi -/
import Derived.Test.YtnjckeadcbfogaaZq24
import Derived.Test.YtnjckeadcbfogaaZq22
import Derived.Test.YtnjckeadcbfogaaZq19
import Derived.Deep.LoopGhost
namespace Go.Proofs.Ytnjckeadcbfogaa
open Go.RowKit RM
set_option linter.unusedVariables false
set_option linter.unusedSimpArgs false
attribute [local irreducible] World.setCell

set_option maxRecDepth 100000 in
set_option maxHeartbeats 4000000 in
theorem mulD_i_t (a b c d : Int) (e : Nat) (p q r s : Int) (f : Nat) (L M N O : Int) (E : Nat) (w : World) (hx : vd a b c d e = true) (hy : vd p q r s f = true) (hs : e + f ≤ 60) (hv : vr (m0 a b c d p q r s) (m1 a b c d p q r s) (m2 a b c d p q r s) (m3 a b c d p q r s) = true) (hl : low (e + f) (m0 a b c d p q r s) (m1 a b c d p q r s) (m2 a b c d p q r s) (m3 a b c d p q r s) = ⟨L, M, N, O, E⟩) :
    Calls Try.prog 159 #[dy a b c d (e : Int), dy p q r s (f : Int)] w fun ee w' => ee = .returned (dt L M N O E true) ∧ Below w.heap.size w w' := by
  have HX1 := hid (vd_iff.1 hx).1
  have HY1 := hid (vd_iff.1 hy).1
  have he1 : (e : Int) ≤ 60 := by have := (vd_iff.1 hx).2.1; omega
  have hf1 : (f : Int) ≤ 60 := by have := (vd_iff.1 hy).2.1; omega
  have hw : IntKind.i64.wrap ((e : Int) + (f : Int)) = ((e + f : Nat) : Int) := by rw [wr64 (by omega) (by omega)]; omega
  have HX := hid hx
  clear hx
  have HY := hid hy
  clear hy
  have HS := hid hs
  clear hs
  have HV := hid hv
  clear hv
  have HL := hid hl
  clear hl
  go_enter Try.func159, Try.ntmps159
  go_wp2_with (first | (go_at_call 127; ((with_reducible refine (ivd_v _ HX.out).mono ?_); rintro ee w1 ⟨rfl, hb1⟩; obtain ⟨hc1, hf1, _⟩ := bcell hb1; have hz1 := hb1.size; (try simp at hz1); (try have hx10 : w.heap.size < w1.heap.size := (by omega)); (try have hx11 : w.heap.size + 1 < w1.heap.size := (by omega)); (try have hx12 : w.heap.size + 1 + 1 < w1.heap.size := (by omega)); (try have hx13 : w.heap.size + 1 + 1 + 1 < w1.heap.size := (by omega)))) | (go_at_call 127; ((with_reducible refine (ivd_v _ HY.out).mono ?_); rintro ee w2 ⟨rfl, hb2⟩; obtain ⟨hc2, hf2, _⟩ := bcell hb2; have hz2 := hb2.size; (try simp at hz2); (try have hx20 : w.heap.size < w2.heap.size := (by omega)); (try have hx21 : w.heap.size + 1 < w2.heap.size := (by omega)); (try have hx22 : w.heap.size + 1 + 1 < w2.heap.size := (by omega)); (try have hx23 : w.heap.size + 1 + 1 + 1 < w2.heap.size := (by omega)))) | (go_at_call 205; ((with_reducible refine (mul_i_t _ _ _ _ _ _ _ _ _ HX1.out HY1.out HV.out).mono ?_); rintro ee w3 ⟨rfl, hb3⟩; obtain ⟨hc3, hf3, _⟩ := bcell hb3; have hz3 := hb3.size; (try simp at hz3); (try have hx30 : w.heap.size < w3.heap.size := (by omega)); (try have hx31 : w.heap.size + 1 < w3.heap.size := (by omega)); (try have hx32 : w.heap.size + 1 + 1 < w3.heap.size := (by omega)); (try have hx33 : w.heap.size + 1 + 1 + 1 < w3.heap.size := (by omega)))) | (go_at_call 169; ((with_reducible refine (dofx _ _ _ _ _ (e + f) _ _ _ _ _ _ (Int.natCast_add e f).symm HV.out HS.out HL.out).mono ?_); rintro ee w4 ⟨rfl, hb4⟩; obtain ⟨hc4, hf4, _⟩ := bcell hb4; have hz4 := hb4.size; (try simp at hz4); (try have hx40 : w.heap.size < w4.heap.size := (by omega)); (try have hx41 : w.heap.size + 1 < w4.heap.size := (by omega)); (try have hx42 : w.heap.size + 1 + 1 < w4.heap.size := (by omega)); (try have hx43 : w.heap.size + 1 + 1 + 1 < w4.heap.size := (by omega)))) | go_in)
  refine bodyPost_ret (v := dt L M N O E true) (by first | (simp [results, Try.results159, go_sem, *]; done) | (simp (disch := (first | omega | (simp; done) | (simp; omega))) [results, Try.results159, go_sem, *]; done) | (simp only [results, Try.results159]; go_simp; done)) rfl ⟨rfl, ?_⟩
  repeat' (first | (with_reducible exact Below.refl _ _) | (with_reducible refine Below.alloc ?_ ?_ _) | (with_reducible refine Below.drew ?_) | (with_reducible refine Below.setCell ?_ ?_ _) | (with_reducible refine chain ?_ (by assumption) ?_) | omega | (simp; done) | (simp; omega))

set_option maxRecDepth 100000 in
set_option maxHeartbeats 4000000 in
theorem mulD_i_o (a b c d : Int) (e : Nat) (p q r s : Int) (f : Nat) (w : World) (hx : vd a b c d e = true) (hy : vd p q r s f = true) (hv : vr (m0 a b c d p q r s) (m1 a b c d p q r s) (m2 a b c d p q r s) (m3 a b c d p q r s) = false) :
    Calls Try.prog 159 #[dy a b c d (e : Int), dy p q r s (f : Int)] w fun ee w' => ee = .returned (dt 0 0 0 0 0 false) ∧ Below w.heap.size w w' := by
  have HX1 := hid (vd_iff.1 hx).1
  have HY1 := hid (vd_iff.1 hy).1
  have he1 : (e : Int) ≤ 60 := by have := (vd_iff.1 hx).2.1; omega
  have hf1 : (f : Int) ≤ 60 := by have := (vd_iff.1 hy).2.1; omega
  have hw : IntKind.i64.wrap ((e : Int) + (f : Int)) = ((e + f : Nat) : Int) := by rw [wr64 (by omega) (by omega)]; omega
  have HX := hid hx
  clear hx
  have HY := hid hy
  clear hy
  have HV := hid hv
  clear hv
  go_enter Try.func159, Try.ntmps159
  go_wp2_with (first | (go_at_call 127; ((with_reducible refine (ivd_v _ HX.out).mono ?_); rintro ee w1 ⟨rfl, hb1⟩; obtain ⟨hc1, hf1, _⟩ := bcell hb1; have hz1 := hb1.size; (try simp at hz1); (try have hx10 : w.heap.size < w1.heap.size := (by omega)); (try have hx11 : w.heap.size + 1 < w1.heap.size := (by omega)); (try have hx12 : w.heap.size + 1 + 1 < w1.heap.size := (by omega)); (try have hx13 : w.heap.size + 1 + 1 + 1 < w1.heap.size := (by omega)))) | (go_at_call 127; ((with_reducible refine (ivd_v _ HY.out).mono ?_); rintro ee w2 ⟨rfl, hb2⟩; obtain ⟨hc2, hf2, _⟩ := bcell hb2; have hz2 := hb2.size; (try simp at hz2); (try have hx20 : w.heap.size < w2.heap.size := (by omega)); (try have hx21 : w.heap.size + 1 < w2.heap.size := (by omega)); (try have hx22 : w.heap.size + 1 + 1 < w2.heap.size := (by omega)); (try have hx23 : w.heap.size + 1 + 1 + 1 < w2.heap.size := (by omega)))) | (go_at_call 205; ((with_reducible refine (mul_i_o _ _ _ _ _ _ _ _ _ HX1.out HY1.out HV.out).mono ?_); rintro ee w3 ⟨rfl, hb3⟩; obtain ⟨hc3, hf3, _⟩ := bcell hb3; have hz3 := hb3.size; (try simp at hz3); (try have hx30 : w.heap.size < w3.heap.size := (by omega)); (try have hx31 : w.heap.size + 1 < w3.heap.size := (by omega)); (try have hx32 : w.heap.size + 1 + 1 < w3.heap.size := (by omega)); (try have hx33 : w.heap.size + 1 + 1 + 1 < w3.heap.size := (by omega)))) | go_in)
  refine bodyPost_ret (v := dt 0 0 0 0 0 false) (by first | (simp [results, Try.results159, go_sem, *]; done) | (simp (disch := (first | omega | (simp; done) | (simp; omega))) [results, Try.results159, go_sem, *]; done) | (simp only [results, Try.results159]; go_simp; done)) rfl ⟨rfl, ?_⟩
  repeat' (first | (with_reducible exact Below.refl _ _) | (with_reducible refine Below.alloc ?_ ?_ _) | (with_reducible refine Below.drew ?_) | (with_reducible refine Below.setCell ?_ ?_ _) | (with_reducible refine chain ?_ (by assumption) ?_) | omega | (simp; done) | (simp; omega))

set_option maxRecDepth 100000 in
set_option maxHeartbeats 4000000 in
theorem mulD_i_x (a b c d : Int) (e : Nat) (p q r s : Int) (f : Nat) (w : World) (hx : vd a b c d e = true) (hy : vd p q r s f = true) (hs : ¬ (e + f ≤ 60)) (hv : vr (m0 a b c d p q r s) (m1 a b c d p q r s) (m2 a b c d p q r s) (m3 a b c d p q r s) = true) :
    Calls Try.prog 159 #[dy a b c d (e : Int), dy p q r s (f : Int)] w fun ee w' => ee = .returned (dt 0 0 0 0 0 false) ∧ Below w.heap.size w w' := by
  have HX1 := hid (vd_iff.1 hx).1
  have HY1 := hid (vd_iff.1 hy).1
  have he1 : (e : Int) ≤ 60 := by have := (vd_iff.1 hx).2.1; omega
  have hf1 : (f : Int) ≤ 60 := by have := (vd_iff.1 hy).2.1; omega
  have hw : IntKind.i64.wrap ((e : Int) + (f : Int)) = ((e + f : Nat) : Int) := by rw [wr64 (by omega) (by omega)]; omega
  have HZ := hid (show (60 : Int) < (e : Int) + (f : Int) by omega)
  have HX := hid hx
  clear hx
  have HY := hid hy
  clear hy
  have HS := hid hs
  clear hs
  have HV := hid hv
  clear hv
  go_enter Try.func159, Try.ntmps159
  go_wp2_with (first | (go_at_call 127; ((with_reducible refine (ivd_v _ HX.out).mono ?_); rintro ee w1 ⟨rfl, hb1⟩; obtain ⟨hc1, hf1, _⟩ := bcell hb1; have hz1 := hb1.size; (try simp at hz1); (try have hx10 : w.heap.size < w1.heap.size := (by omega)); (try have hx11 : w.heap.size + 1 < w1.heap.size := (by omega)); (try have hx12 : w.heap.size + 1 + 1 < w1.heap.size := (by omega)); (try have hx13 : w.heap.size + 1 + 1 + 1 < w1.heap.size := (by omega)))) | (go_at_call 127; ((with_reducible refine (ivd_v _ HY.out).mono ?_); rintro ee w2 ⟨rfl, hb2⟩; obtain ⟨hc2, hf2, _⟩ := bcell hb2; have hz2 := hb2.size; (try simp at hz2); (try have hx20 : w.heap.size < w2.heap.size := (by omega)); (try have hx21 : w.heap.size + 1 < w2.heap.size := (by omega)); (try have hx22 : w.heap.size + 1 + 1 < w2.heap.size := (by omega)); (try have hx23 : w.heap.size + 1 + 1 + 1 < w2.heap.size := (by omega)))) | (go_at_call 205; ((with_reducible refine (mul_i_t _ _ _ _ _ _ _ _ _ HX1.out HY1.out HV.out).mono ?_); rintro ee w3 ⟨rfl, hb3⟩; obtain ⟨hc3, hf3, _⟩ := bcell hb3; have hz3 := hb3.size; (try simp at hz3); (try have hx30 : w.heap.size < w3.heap.size := (by omega)); (try have hx31 : w.heap.size + 1 < w3.heap.size := (by omega)); (try have hx32 : w.heap.size + 1 + 1 < w3.heap.size := (by omega)); (try have hx33 : w.heap.size + 1 + 1 + 1 < w3.heap.size := (by omega)))) | (go_at_call 169; ((with_reducible refine (dof_m _ _ _ _ _ _ HV.out HZ.out).mono ?_); rintro ee w4 ⟨rfl, hb4⟩; obtain ⟨hc4, hf4, _⟩ := bcell hb4; have hz4 := hb4.size; (try simp at hz4); (try have hx40 : w.heap.size < w4.heap.size := (by omega)); (try have hx41 : w.heap.size + 1 < w4.heap.size := (by omega)); (try have hx42 : w.heap.size + 1 + 1 < w4.heap.size := (by omega)); (try have hx43 : w.heap.size + 1 + 1 + 1 < w4.heap.size := (by omega)))) | go_in)
  refine bodyPost_ret (v := dt 0 0 0 0 0 false) (by first | (simp [results, Try.results159, go_sem, *]; done) | (simp (disch := (first | omega | (simp; done) | (simp; omega))) [results, Try.results159, go_sem, *]; done) | (simp only [results, Try.results159]; go_simp; done)) rfl ⟨rfl, ?_⟩
  repeat' (first | (with_reducible exact Below.refl _ _) | (with_reducible refine Below.alloc ?_ ?_ _) | (with_reducible refine Below.drew ?_) | (with_reducible refine Below.setCell ?_ ?_ _) | (with_reducible refine chain ?_ (by assumption) ?_) | omega | (simp; done) | (simp; omega))

end Go.Proofs.Ytnjckeadcbfogaa
