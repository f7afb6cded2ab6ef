/- The product of two dyadic numbers: what the model and the program give. -/
import Derived.Test.YtnjckeadcbfogaaZp13
import Derived.Test.YtnjckeadcbfogaaZp12
import Derived.Test.YtnjckeadcbfogaaNormD
import Derived.Deep.LoopGhost
namespace Go.Proofs.Ytnjckeadcbfogaa
open Go.RowKit RM
set_option linter.unusedVariables false
set_option linter.unusedSimpArgs false
attribute [local irreducible] World.setCell

theorem mul_two {a b c d : Int} {e : Nat} {p q r s : Int} {f : Nat} (hx : vd a b c d e = true) (hy : vd p q r s f = true) :
    ∃ (L M N O : Int) (E : Nat) (zz : Bool), (∀ (g : Nat) (w : World), w.cell? ⟨g, 0, none⟩ = some (.bool false) → w.frozen? ⟨g, 0, none⟩ = false → Calls Try.prog 109 #[.pointer (some ⟨g, 0, none⟩), dy a b c d (e : Int), dy p q r s (f : Int)] w fun ee w' => ee = .returned (dy L M N O E) ∧ Below w.heap.size (w.setCell ⟨g, 0, none⟩ (.bool zz)) w') ∧
      ((zz = false ∧ e + f ≤ 60 ∧ vr (m0 a b c d p q r s) (m1 a b c d p q r s) (m2 a b c d p q r s) (m3 a b c d p q r s) = true ∧ low (e + f) (m0 a b c d p q r s) (m1 a b c d p q r s) (m2 a b c d p q r s) (m3 a b c d p q r s) = ⟨L, M, N, O, E⟩ ∧ ∀ w : World, Calls Try.prog 159 #[dy a b c d (e : Int), dy p q r s (f : Int)] w fun ee w' => ee = .returned (dt L M N O E true) ∧ Below w.heap.size w w') ∨
       (zz = true ∧ ¬ (e + f ≤ 60 ∧ vr (m0 a b c d p q r s) (m1 a b c d p q r s) (m2 a b c d p q r s) (m3 a b c d p q r s) = true) ∧ ∀ w : World, Calls Try.prog 159 #[dy a b c d (e : Int), dy p q r s (f : Int)] w fun ee w' => ee = .returned (dt 0 0 0 0 0 false) ∧ Below w.heap.size w w')) := by
  obtain ⟨vx, ex, _⟩ := vd_iff.1 hx
  obtain ⟨vy, ey, _⟩ := vd_iff.1 hy
  cases hv : vr (m0 a b c d p q r s) (m1 a b c d p q r s) (m2 a b c d p q r s) (m3 a b c d p q r s)
  · by_cases hs : e + f ≤ 60
    · rcases hl : low (e + f) 0 0 0 0 with ⟨L, M, N, O, E⟩
      exact ⟨L, M, N, O, E, true, fun g w h0 f0 => lmul_o _ _ _ _ _ _ _ _ _ _ g _ _ _ _ _ _ w h0 f0 ex ey vx vy hs hv hl, Or.inr ⟨rfl, fun h => by simp at h, fun w => mulD_i_o _ _ _ _ _ _ _ _ _ _ w hx hy hv⟩⟩
    · exact ⟨0, 0, 0, 0, 0, true, fun g w h0 f0 => lmul_x _ _ _ _ _ _ _ _ _ _ g _ w h0 f0 ex ey hs, Or.inr ⟨rfl, fun h => by simp at h, fun w => mulD_i_o _ _ _ _ _ _ _ _ _ _ w hx hy hv⟩⟩
  · by_cases hs : e + f ≤ 60
    · rcases hl : low (e + f) (m0 a b c d p q r s) (m1 a b c d p q r s) (m2 a b c d p q r s) (m3 a b c d p q r s) with ⟨L, M, N, O, E⟩
      exact ⟨L, M, N, O, E, false, fun g w h0 f0 => lmul_t _ _ _ _ _ _ _ _ _ _ g _ _ _ _ _ _ w h0 f0 ex ey vx vy hs hv hl, Or.inl ⟨rfl, hs, rfl, rfl, fun w => mulD_i_t _ _ _ _ _ _ _ _ _ _ _ _ _ _ _ w hx hy hs hv hl⟩⟩
    · exact ⟨0, 0, 0, 0, 0, true, fun g w h0 f0 => lmul_x _ _ _ _ _ _ _ _ _ _ g _ w h0 f0 ex ey hs, Or.inr ⟨rfl, fun h => hs h.1, fun w => mulD_i_x _ _ _ _ _ _ _ _ _ _ w hx hy hs hv⟩⟩
theorem vd_conj {a b c d : Int} {e : Nat} (h : vd a b c d e = true) : vd a (-d) (-c) (-b) e = true := by
  obtain ⟨h1, h2, h3⟩ := vd_iff.1 h
  refine vd_iff.2 ⟨?_, h2, ?_⟩
  · rw [vr_iff] at *; omega
  · rcases h3 with h3 | h3
    · exact Or.inl h3
    · refine Or.inr ?_
      cases hq : ev2 a (-d) (-c) (-b)
      · rfl
      · rw [← h3]
        simp only [ev2, Bool.and_eq_true, tm2''] at hq
        symm
        simp only [ev2, Bool.and_eq_true, tm2'']
        omega
theorem vd_neg {a b c d : Int} {e : Nat} (h : vd a b c d e = true) : vd (-a) (-b) (-c) (-d) e = true := by
  obtain ⟨h1, h2, h3⟩ := vd_iff.1 h
  refine vd_iff.2 ⟨?_, h2, ?_⟩
  · rw [vr_iff] at *; omega
  · rcases h3 with h3 | h3
    · exact Or.inl h3
    · refine Or.inr ?_
      cases hq : ev2 (-a) (-b) (-c) (-d)
      · rfl
      · rw [← h3]
        simp only [ev2, Bool.and_eq_true, tm2''] at hq
        symm
        simp only [ev2, Bool.and_eq_true, tm2'']
        omega

set_option maxRecDepth 100000 in
set_option maxHeartbeats 4000000 in
theorem ns_i (a b c d : Int) (e : Nat) (r0 r1 r2 r3 r4 : Int) (ok : Bool) (w : World) (hx : vd a b c d e = true) (hm : ∀ w : World, Calls Try.prog 159 #[dy a b c d (e : Int), dy a (-d) (-c) (-b) (e : Int)] w fun ee w' => ee = .returned (dt r0 r1 r2 r3 r4 ok) ∧ Below w.heap.size w w') :
    Calls Try.prog 105 #[dy a b c d (e : Int)] w fun ee w' => ee = .returned (dt r0 r1 r2 r3 r4 ok) ∧ Below w.heap.size w w' := by
  have HX := hid hx
  clear hx
  have HM := hid hm
  clear hm
  go_enter Try.func105, Try.ntmps105
  go_wp2_with (first | (go_at_call 148; ((with_reducible refine (cj_i_t _ _ _ _ _ _ HX.out).mono ?_); rintro ee w1 ⟨rfl, hb1⟩; obtain ⟨hc1, hf1, _⟩ := bcell hb1; have hz1 := hb1.size; (try simp at hz1); (try have hx10 : w.heap.size < w1.heap.size := (by omega)); (try have hx11 : w.heap.size + 1 < w1.heap.size := (by omega)); (try have hx12 : w.heap.size + 1 + 1 < w1.heap.size := (by omega)); (try have hx13 : w.heap.size + 1 + 1 + 1 < w1.heap.size := (by omega)))) | (go_at_call 159; ((with_reducible refine (HM.out _).mono ?_); rintro ee w2 ⟨rfl, hb2⟩; obtain ⟨hc2, hf2, _⟩ := bcell hb2; have hz2 := hb2.size; (try simp at hz2); (try have hx20 : w.heap.size < w2.heap.size := (by omega)); (try have hx21 : w.heap.size + 1 < w2.heap.size := (by omega)); (try have hx22 : w.heap.size + 1 + 1 < w2.heap.size := (by omega)); (try have hx23 : w.heap.size + 1 + 1 + 1 < w2.heap.size := (by omega)))) | go_in)
  refine bodyPost_ret (v := dt r0 r1 r2 r3 r4 ok) (by first | (simp [results, Try.results105, go_sem, *]; done) | (simp (disch := (first | omega | (simp; done) | (simp; omega))) [results, Try.results105, go_sem, *]; done) | (simp only [results, Try.results105]; go_simp; done)) rfl ⟨rfl, ?_⟩
  repeat' (first | (with_reducible exact Below.refl _ _) | (with_reducible refine Below.alloc ?_ ?_ _) | (with_reducible refine Below.drew ?_) | (with_reducible refine Below.setCell ?_ ?_ _) | (with_reducible refine chain ?_ (by assumption) ?_) | omega | (simp; done) | (simp; omega))

set_option maxRecDepth 100000 in
set_option maxHeartbeats 4000000 in
theorem ns_i_f (a b c d e : Int) (w : World) (hx : vi a b c d e = false) :
    Calls Try.prog 105 #[dy a b c d e] w fun ee w' => ee = .returned (dt 0 0 0 0 0 false) ∧ Below w.heap.size w w' := by
  have HX := hid hx
  clear hx
  go_enter Try.func105, Try.ntmps105
  go_wp2_with (first | (go_at_call 148; ((with_reducible refine (cj_i_f _ _ _ _ _ _ HX.out).mono ?_); rintro ee w1 ⟨rfl, hb1⟩; obtain ⟨hc1, hf1, _⟩ := bcell hb1; have hz1 := hb1.size; (try simp at hz1); (try have hx10 : w.heap.size < w1.heap.size := (by omega)); (try have hx11 : w.heap.size + 1 < w1.heap.size := (by omega)); (try have hx12 : w.heap.size + 1 + 1 < w1.heap.size := (by omega)); (try have hx13 : w.heap.size + 1 + 1 + 1 < w1.heap.size := (by omega)))) | go_in)
  refine bodyPost_ret (v := dt 0 0 0 0 0 false) (by first | (simp [results, Try.results105, go_sem, *]; done) | (simp (disch := (first | omega | (simp; done) | (simp; omega))) [results, Try.results105, go_sem, *]; done) | (simp only [results, Try.results105]; go_simp; done)) rfl ⟨rfl, ?_⟩
  repeat' (first | (with_reducible exact Below.refl _ _) | (with_reducible refine Below.alloc ?_ ?_ _) | (with_reducible refine Below.drew ?_) | (with_reducible refine Below.setCell ?_ ?_ _) | (with_reducible refine chain ?_ (by assumption) ?_) | omega | (simp; done) | (simp; omega))

/-- NormSquare at a valid number: the model and the program -/
theorem ns_two {a b c d : Int} {e : Nat} (hx : vd a b c d e = true) :
    (∃ (L M N O : Int) (E : Nat), vd L M N O E = true ∧ (∀ w : World, Calls Try.prog 104 #[dy a b c d (e : Int)] w fun ee w' => ee = .returned (dt L M N O E true) ∧ Below w.heap.size w w') ∧ (∀ w : World, Calls Try.prog 105 #[dy a b c d (e : Int)] w fun ee w' => ee = .returned (dt L M N O E true) ∧ Below w.heap.size w w')) ∨
    ((∀ w : World, Calls Try.prog 104 #[dy a b c d (e : Int)] w fun ee w' => ee = .returned (dt 0 0 0 0 0 false) ∧ Below w.heap.size w w') ∧ (∀ w : World, Calls Try.prog 105 #[dy a b c d (e : Int)] w fun ee w' => ee = .returned (dt 0 0 0 0 0 false) ∧ Below w.heap.size w w')) := by
  obtain ⟨L, M, N, O, E, zz, hm, h | h⟩ := mul_two hx (vd_conj hx)
  · obtain ⟨rfl, hs, hv, hl, hi⟩ := h
    exact Or.inl ⟨L, M, N, O, E, low_vd hv hs hl, fun w => ns_s_y _ _ _ _ _ _ _ _ _ _ w hx hm, fun w => ns_i _ _ _ _ _ _ _ _ _ _ _ w hx hi⟩
  · obtain ⟨rfl, _, hi⟩ := h
    exact Or.inr ⟨fun w => ns_s_n _ _ _ _ _ _ _ _ _ _ w hx hm, fun w => ns_i _ _ _ _ _ _ _ _ _ _ _ w hx hi⟩
end Go.Proofs.Ytnjckeadcbfogaa
