/- Contracts of DivRing, out of those of what it calls (second part). -/
import Derived.Test.YtefmglofnoinmaaDivEx
import Derived.Test.YtefmglofnoinmaaAbsI
namespace Go.Proofs.Ytefmglofnoinmaa
open Go.RowKit RM
set_option linter.unusedVariables false
set_option linter.unusedSimpArgs false

set_option maxRecDepth 100000 in
set_option maxHeartbeats 4000000 in
theorem div_i_4 (a b c d p q r s u v e0 e1 e2 e3 g0 g1 g2 g3 : Int) (w : World) (hu : -1000000000 ≤ u ∧ u ≤ 1000000000) (hv : -1000000000 ≤ v ∧ v ≤ 1000000000) (hne : (p == 0 && (q == 0 && (r == 0 && s == 0))) = false) (hg : vr g0 g1 g2 g3 = true) (ha : ∀ w : World, Calls Try.prog 26 #[rg p q r s] w fun e w' => e = .returned (.tuple #[.int .i64 u, .int .i64 v, .bool true]) ∧ Below w.heap.size w w') (hy : vr p q r s = true) (hm : ∀ w : World, Calls Try.prog 20 #[rg a b c d, rg p (-s) (-r) (-q)] w fun e w' => e = .returned (rt e0 e1 e2 e3 true) ∧ Below w.heap.size w w') (hk : ∀ w : World, Calls Try.prog 20 #[rg e0 e1 e2 e3, rg u (-v) 0 v] w fun e w' => e = .returned (rt g0 g1 g2 g3 true) ∧ Below w.heap.size w w') (hn : (u * u - 2 * v * v) ≠ 0) (hr : (g0.tmod (u * u - 2 * v * v) == 0 && (g1.tmod (u * u - 2 * v * v) == 0 && (g2.tmod (u * u - 2 * v * v) == 0 && g3.tmod (u * u - 2 * v * v) == 0))) = false) :
    Calls Try.prog 27 #[rg a b c d, rg p q r s] w fun e w' => e = .returned (rt 0 0 0 0 false) ∧ Below w.heap.size w w' := by
  have he := fun w => run_eql4 p q r s 0 0 0 0 false w hne
  clear hne
  obtain ⟨⟨p1, p2⟩, ⟨q1, q2⟩, ⟨r1, r2⟩, ⟨s1, s2⟩⟩ := vr_iff.1 hy
  obtain ⟨uu1, uu2⟩ := mul_bd hu hu
  have hvv := mul_bd hv hv
  have has : 2 * v * v = 2 * (v * v) := Int.mul_assoc 2 v v
  have v21 : -2000000000000000000 ≤ 2 * v * v := by rw [has]; omega
  have v22 : 2 * v * v ≤ 2000000000000000000 := by rw [has]; omega
  clear hvv has
  obtain ⟨u1, u2⟩ := hu
  obtain ⟨v1, v2⟩ := hv
  obtain ⟨hg0, hg1, hg2, hg3⟩ := vr_iff.1 hg
  clear hg
  have HA := hid ha
  clear ha
  have HY := hid hy
  clear hy
  have HM := hid hm
  clear hm
  have HK := hid hk
  clear hk
  have HN := hid hn
  clear hn
  have HR := hid hr
  clear hr
  go_enter Try.func27, Try.ntmps27
  go_wp2_with (first | (go_at_call 26; ((with_reducible refine (HA.out _).mono ?_); rintro e w1 ⟨rfl, hb1⟩; obtain ⟨hc1, hf1, _⟩ := bcell hb1; have hz1 := hb1.size; (try simp at hz1); (try have hx10 : w.heap.size < w1.heap.size := (by omega)); (try have hx11 : w.heap.size + 1 < w1.heap.size := (by omega)); (try have hx12 : w.heap.size + 1 + 1 < w1.heap.size := (by omega)); (try have hx13 : w.heap.size + 1 + 1 + 1 < w1.heap.size := (by omega)))) | (go_at_call 66; ((with_reducible refine (co _ _ _ _ _).mono ?_); rintro e w2 ⟨rfl, hb2⟩; obtain ⟨hc2, hf2, _⟩ := bcell hb2; have hz2 := hb2.size; (try simp at hz2); (try have hx20 : w.heap.size < w2.heap.size := (by omega)); (try have hx21 : w.heap.size + 1 < w2.heap.size := (by omega)); (try have hx22 : w.heap.size + 1 + 1 < w2.heap.size := (by omega)); (try have hx23 : w.heap.size + 1 + 1 + 1 < w2.heap.size := (by omega)))) | (go_at_call 23; ((with_reducible refine (conj_i_t _ _ _ _ _ HY.out).mono ?_); rintro e w3 ⟨rfl, hb3⟩; obtain ⟨hc3, hf3, _⟩ := bcell hb3; have hz3 := hb3.size; (try simp at hz3); (try have hx30 : w.heap.size < w3.heap.size := (by omega)); (try have hx31 : w.heap.size + 1 < w3.heap.size := (by omega)); (try have hx32 : w.heap.size + 1 + 1 < w3.heap.size := (by omega)); (try have hx33 : w.heap.size + 1 + 1 + 1 < w3.heap.size := (by omega)))) | (go_at_call 20; ((with_reducible refine (HM.out _).mono ?_); rintro e w4 ⟨rfl, hb4⟩; obtain ⟨hc4, hf4, _⟩ := bcell hb4; have hz4 := hb4.size; (try simp at hz4); (try have hx40 : w.heap.size < w4.heap.size := (by omega)); (try have hx41 : w.heap.size + 1 < w4.heap.size := (by omega)); (try have hx42 : w.heap.size + 1 + 1 < w4.heap.size := (by omega)); (try have hx43 : w.heap.size + 1 + 1 + 1 < w4.heap.size := (by omega)))) | (go_at_call 20; ((with_reducible refine (HK.out _).mono ?_); rintro e w5 ⟨rfl, hb5⟩; obtain ⟨hc5, hf5, _⟩ := bcell hb5; have hz5 := hb5.size; (try simp at hz5); (try have hx50 : w.heap.size < w5.heap.size := (by omega)); (try have hx51 : w.heap.size + 1 < w5.heap.size := (by omega)); (try have hx52 : w.heap.size + 1 + 1 < w5.heap.size := (by omega)); (try have hx53 : w.heap.size + 1 + 1 + 1 < w5.heap.size := (by omega)))) | (go_at_call 73; ((with_reducible refine (de_r _ _ _ _ _ _ (by omega) (by omega) (by omega) (by omega) HN.out (by omega) (by omega) HR.out).mono ?_); rintro e w6 ⟨rfl, hb6⟩; obtain ⟨hc6, hf6, _⟩ := bcell hb6; have hz6 := hb6.size; (try simp at hz6); (try have hx60 : w.heap.size < w6.heap.size := (by omega)); (try have hx61 : w.heap.size + 1 < w6.heap.size := (by omega)); (try have hx62 : w.heap.size + 1 + 1 < w6.heap.size := (by omega)); (try have hx63 : w.heap.size + 1 + 1 + 1 < w6.heap.size := (by omega)); have zc0 : w6.cell? ⟨w.heap.size + 1 + 1, 0, none⟩ = some (.int .i64 0) := (by rw [hc6 _ _ (by first | omega | (simp; done) | (simp; omega))]; go_simp); have zc1 : w6.cell? ⟨w.heap.size + 1 + 1, 1, none⟩ = some (.int .i64 0) := (by rw [hc6 _ _ (by first | omega | (simp; done) | (simp; omega))]; go_simp); have zc2 : w6.cell? ⟨w.heap.size + 1 + 1, 2, none⟩ = some (.int .i64 0) := (by rw [hc6 _ _ (by first | omega | (simp; done) | (simp; omega))]; go_simp); have zc3 : w6.cell? ⟨w.heap.size + 1 + 1, 3, none⟩ = some (.int .i64 0) := (by rw [hc6 _ _ (by first | omega | (simp; done) | (simp; omega))]; go_simp); have zf0 : w6.frozen? ⟨w.heap.size + 1 + 1, 0, none⟩ = false := (by rw [hf6 _ _ (by first | omega | (simp; done) | (simp; omega))]; go_simp); have zf1 : w6.frozen? ⟨w.heap.size + 1 + 1, 1, none⟩ = false := (by rw [hf6 _ _ (by first | omega | (simp; done) | (simp; omega))]; go_simp); have zf2 : w6.frozen? ⟨w.heap.size + 1 + 1, 2, none⟩ = false := (by rw [hf6 _ _ (by first | omega | (simp; done) | (simp; omega))]; go_simp); have zf3 : w6.frozen? ⟨w.heap.size + 1 + 1, 3, none⟩ = false := (by rw [hf6 _ _ (by first | omega | (simp; done) | (simp; omega))]; go_simp))) | go_in)
  refine bodyPost_ret (v := rt 0 0 0 0 false) (by first | (simp [results, Try.results27, go_sem, *]; done) | (simp (disch := (first | omega | (simp; done) | (simp; omega))) [results, Try.results27, go_sem, *]; done) | (simp only [results, Try.results27]; go_simp; done)) rfl ⟨rfl, ?_⟩
  repeat' (first | (with_reducible exact Below.refl _ _) | (with_reducible refine Below.alloc ?_ ?_ _) | (with_reducible refine Below.drew ?_) | (with_reducible refine Below.setCell ?_ ?_ _) | (with_reducible refine chain ?_ (by assumption) ?_) | omega | (simp; done) | (simp; omega))

set_option maxRecDepth 100000 in
set_option maxHeartbeats 4000000 in
theorem div_i_5 (a b c d p q r s u v e0 e1 e2 e3 g0 g1 g2 g3 : Int) (w : World) (hu : -1000000000 ≤ u ∧ u ≤ 1000000000) (hv : -1000000000 ≤ v ∧ v ≤ 1000000000) (hne : (p == 0 && (q == 0 && (r == 0 && s == 0))) = false) (hg : vr g0 g1 g2 g3 = true) (ha : ∀ w : World, Calls Try.prog 26 #[rg p q r s] w fun e w' => e = .returned (.tuple #[.int .i64 u, .int .i64 v, .bool true]) ∧ Below w.heap.size w w') (hy : vr p q r s = true) (hm : ∀ w : World, Calls Try.prog 20 #[rg a b c d, rg p (-s) (-r) (-q)] w fun e w' => e = .returned (rt e0 e1 e2 e3 true) ∧ Below w.heap.size w w') (hk : ∀ w : World, Calls Try.prog 20 #[rg e0 e1 e2 e3, rg u (-v) 0 v] w fun e w' => e = .returned (rt g0 g1 g2 g3 true) ∧ Below w.heap.size w w') (hn : (u * u - 2 * v * v) ≠ 0) (hr : (g0.tmod (u * u - 2 * v * v) == 0 && (g1.tmod (u * u - 2 * v * v) == 0 && (g2.tmod (u * u - 2 * v * v) == 0 && g3.tmod (u * u - 2 * v * v) == 0))) = true) (hv2 : vr (g0.tdiv (u * u - 2 * v * v)) (g1.tdiv (u * u - 2 * v * v)) (g2.tdiv (u * u - 2 * v * v)) (g3.tdiv (u * u - 2 * v * v)) = true) :
    Calls Try.prog 27 #[rg a b c d, rg p q r s] w fun e w' => e = .returned (rt (g0.tdiv (u * u - 2 * v * v)) (g1.tdiv (u * u - 2 * v * v)) (g2.tdiv (u * u - 2 * v * v)) (g3.tdiv (u * u - 2 * v * v)) true) ∧ Below w.heap.size w w' := by
  have he := fun w => run_eql4 p q r s 0 0 0 0 false w hne
  clear hne
  obtain ⟨⟨p1, p2⟩, ⟨q1, q2⟩, ⟨r1, r2⟩, ⟨s1, s2⟩⟩ := vr_iff.1 hy
  obtain ⟨uu1, uu2⟩ := mul_bd hu hu
  have hvv := mul_bd hv hv
  have has : 2 * v * v = 2 * (v * v) := Int.mul_assoc 2 v v
  have v21 : -2000000000000000000 ≤ 2 * v * v := by rw [has]; omega
  have v22 : 2 * v * v ≤ 2000000000000000000 := by rw [has]; omega
  clear hvv has
  obtain ⟨u1, u2⟩ := hu
  obtain ⟨v1, v2⟩ := hv
  obtain ⟨hg0, hg1, hg2, hg3⟩ := vr_iff.1 hg
  clear hg
  have HA := hid ha
  clear ha
  have HY := hid hy
  clear hy
  have HM := hid hm
  clear hm
  have HK := hid hk
  clear hk
  have HN := hid hn
  clear hn
  have HR := hid hr
  clear hr
  have HV2 := hid hv2
  clear hv2
  go_enter Try.func27, Try.ntmps27
  go_wp2_with (first | (go_at_call 26; ((with_reducible refine (HA.out _).mono ?_); rintro e w1 ⟨rfl, hb1⟩; obtain ⟨hc1, hf1, _⟩ := bcell hb1; have hz1 := hb1.size; (try simp at hz1); (try have hx10 : w.heap.size < w1.heap.size := (by omega)); (try have hx11 : w.heap.size + 1 < w1.heap.size := (by omega)); (try have hx12 : w.heap.size + 1 + 1 < w1.heap.size := (by omega)); (try have hx13 : w.heap.size + 1 + 1 + 1 < w1.heap.size := (by omega)))) | (go_at_call 66; ((with_reducible refine (co _ _ _ _ _).mono ?_); rintro e w2 ⟨rfl, hb2⟩; obtain ⟨hc2, hf2, _⟩ := bcell hb2; have hz2 := hb2.size; (try simp at hz2); (try have hx20 : w.heap.size < w2.heap.size := (by omega)); (try have hx21 : w.heap.size + 1 < w2.heap.size := (by omega)); (try have hx22 : w.heap.size + 1 + 1 < w2.heap.size := (by omega)); (try have hx23 : w.heap.size + 1 + 1 + 1 < w2.heap.size := (by omega)))) | (go_at_call 23; ((with_reducible refine (conj_i_t _ _ _ _ _ HY.out).mono ?_); rintro e w3 ⟨rfl, hb3⟩; obtain ⟨hc3, hf3, _⟩ := bcell hb3; have hz3 := hb3.size; (try simp at hz3); (try have hx30 : w.heap.size < w3.heap.size := (by omega)); (try have hx31 : w.heap.size + 1 < w3.heap.size := (by omega)); (try have hx32 : w.heap.size + 1 + 1 < w3.heap.size := (by omega)); (try have hx33 : w.heap.size + 1 + 1 + 1 < w3.heap.size := (by omega)))) | (go_at_call 20; ((with_reducible refine (HM.out _).mono ?_); rintro e w4 ⟨rfl, hb4⟩; obtain ⟨hc4, hf4, _⟩ := bcell hb4; have hz4 := hb4.size; (try simp at hz4); (try have hx40 : w.heap.size < w4.heap.size := (by omega)); (try have hx41 : w.heap.size + 1 < w4.heap.size := (by omega)); (try have hx42 : w.heap.size + 1 + 1 < w4.heap.size := (by omega)); (try have hx43 : w.heap.size + 1 + 1 + 1 < w4.heap.size := (by omega)))) | (go_at_call 20; ((with_reducible refine (HK.out _).mono ?_); rintro e w5 ⟨rfl, hb5⟩; obtain ⟨hc5, hf5, _⟩ := bcell hb5; have hz5 := hb5.size; (try simp at hz5); (try have hx50 : w.heap.size < w5.heap.size := (by omega)); (try have hx51 : w.heap.size + 1 < w5.heap.size := (by omega)); (try have hx52 : w.heap.size + 1 + 1 < w5.heap.size := (by omega)); (try have hx53 : w.heap.size + 1 + 1 + 1 < w5.heap.size := (by omega)))) | (go_at_call 73; ((with_reducible refine (de_t _ _ _ _ _ _ (by omega) (by omega) (by omega) (by omega) HN.out (by omega) (by omega) HR.out HV2.out).mono ?_); rintro e w6 ⟨rfl, hb6⟩; obtain ⟨hc6, hf6, _⟩ := bcell hb6; have hz6 := hb6.size; (try simp at hz6); (try have hx60 : w.heap.size < w6.heap.size := (by omega)); (try have hx61 : w.heap.size + 1 < w6.heap.size := (by omega)); (try have hx62 : w.heap.size + 1 + 1 < w6.heap.size := (by omega)); (try have hx63 : w.heap.size + 1 + 1 + 1 < w6.heap.size := (by omega)); have zc0 : w6.cell? ⟨w.heap.size + 1 + 1, 0, none⟩ = some (.int .i64 0) := (by rw [hc6 _ _ (by first | omega | (simp; done) | (simp; omega))]; go_simp); have zc1 : w6.cell? ⟨w.heap.size + 1 + 1, 1, none⟩ = some (.int .i64 0) := (by rw [hc6 _ _ (by first | omega | (simp; done) | (simp; omega))]; go_simp); have zc2 : w6.cell? ⟨w.heap.size + 1 + 1, 2, none⟩ = some (.int .i64 0) := (by rw [hc6 _ _ (by first | omega | (simp; done) | (simp; omega))]; go_simp); have zc3 : w6.cell? ⟨w.heap.size + 1 + 1, 3, none⟩ = some (.int .i64 0) := (by rw [hc6 _ _ (by first | omega | (simp; done) | (simp; omega))]; go_simp); have zf0 : w6.frozen? ⟨w.heap.size + 1 + 1, 0, none⟩ = false := (by rw [hf6 _ _ (by first | omega | (simp; done) | (simp; omega))]; go_simp); have zf1 : w6.frozen? ⟨w.heap.size + 1 + 1, 1, none⟩ = false := (by rw [hf6 _ _ (by first | omega | (simp; done) | (simp; omega))]; go_simp); have zf2 : w6.frozen? ⟨w.heap.size + 1 + 1, 2, none⟩ = false := (by rw [hf6 _ _ (by first | omega | (simp; done) | (simp; omega))]; go_simp); have zf3 : w6.frozen? ⟨w.heap.size + 1 + 1, 3, none⟩ = false := (by rw [hf6 _ _ (by first | omega | (simp; done) | (simp; omega))]; go_simp))) | go_in)
  refine bodyPost_ret (v := rt (g0.tdiv (u * u - 2 * v * v)) (g1.tdiv (u * u - 2 * v * v)) (g2.tdiv (u * u - 2 * v * v)) (g3.tdiv (u * u - 2 * v * v)) true) (by first | (simp [results, Try.results27, go_sem, *]; done) | (simp (disch := (first | omega | (simp; done) | (simp; omega))) [results, Try.results27, go_sem, *]; done) | (simp only [results, Try.results27]; go_simp; done)) rfl ⟨rfl, ?_⟩
  repeat' (first | (with_reducible exact Below.refl _ _) | (with_reducible refine Below.alloc ?_ ?_ _) | (with_reducible refine Below.drew ?_) | (with_reducible refine Below.setCell ?_ ?_ _) | (with_reducible refine chain ?_ (by assumption) ?_) | omega | (simp; done) | (simp; omega))
end Go.Proofs.Ytefmglofnoinmaa
