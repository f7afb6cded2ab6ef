/- MulIt -/
import Derived.Test.YtgcligmpdlffoaaZp1
import Derived.Deep.RegionWith
namespace Go.Proofs.Ytgcligmpdlffoaa
open Go.RowKit RM
set_option linter.unusedVariables false
set_option linter.unusedSimpArgs false

set_option maxRecDepth 100000 in
set_option maxHeartbeats 2000000 in
theorem mul_i_t (a b c d p q r s : Int) (w : World) (hx : vr a b c d = true) (hy : vr p q r s = true) (hv : vr (m0 a b c d p q r s) (m1 a b c d p q r s) (m2 a b c d p q r s) (m3 a b c d p q r s) = true) :
    Calls Try.prog 171 #[rg a b c d, rg p q r s] w fun e w' => e = .returned (rt (m0 a b c d p q r s) (m1 a b c d p q r s) (m2 a b c d p q r s) (m3 a b c d p q r s) true) ∧ Below w.heap.size w w' := by
  have HX := hid hx
  clear hx
  have HY := hid hy
  clear hy
  have HV := hid hv
  clear hv
  go_enter Try.func171, Try.ntmps171
  go_wp2_with (first | (go_at_call 174; ((with_reducible refine (iv_t _ _ _ _ _ HX.out).mono ?_); rintro e w1 ⟨rfl, hb1⟩; obtain ⟨hc1, hf1, _⟩ := bcell hb1; have hz1 := hb1.size; (try simp at hz1); (try have hx10 : w.heap.size < w1.heap.size := (by omega)); (try have hx11 : w.heap.size + 1 < w1.heap.size := (by omega)); (try have hx12 : w.heap.size + 1 + 1 < w1.heap.size := (by omega)); (try have hx13 : w.heap.size + 1 + 1 + 1 < w1.heap.size := (by omega)))) | (go_at_call 174; ((with_reducible refine (iv_t _ _ _ _ _ HY.out).mono ?_); rintro e w2 ⟨rfl, hb2⟩; obtain ⟨hc2, hf2, _⟩ := bcell hb2; have hz2 := hb2.size; (try simp at hz2); (try have hx20 : w.heap.size < w2.heap.size := (by omega)); (try have hx21 : w.heap.size + 1 < w2.heap.size := (by omega)); (try have hx22 : w.heap.size + 1 + 1 < w2.heap.size := (by omega)); (try have hx23 : w.heap.size + 1 + 1 + 1 < w2.heap.size := (by omega)))))
  go_region_with (first
   | (go_at_call 182; ((with_reducible refine (co _ _ _ _ _).mono ?_); rintro e w3 ⟨rfl, hb3⟩; ((first | (have hq3 := bcell_drew hb3) | (have hq3 := bcell hb3))); obtain ⟨hc3, hf3, hz3⟩ := hq3; (try simp at hz3); (try have hx30 : w.heap.size < w3.heap.size := (by omega)); (try have hx31 : w.heap.size + 1 < w3.heap.size := (by omega)); (try have hx32 : w.heap.size + 1 + 1 < w3.heap.size := (by omega))))
   | (go_at_call 181; ((with_reducible refine (mc _ _ _ _ _ _ _ _ _ HX.out HY.out).mono ?_); rintro e w4 ⟨rfl, hb4⟩; ((first | (have hq4 := bcell_drew hb4) | (have hq4 := bcell hb4))); obtain ⟨hc4, hf4, hz4⟩ := hq4; (try simp at hz4); (try have hx40 : w.heap.size < w4.heap.size := (by omega)); (try have hx41 : w.heap.size + 1 < w4.heap.size := (by omega)); (try have hx42 : w.heap.size + 1 + 1 < w4.heap.size := (by omega))))
   | (go_at_call 175; ((with_reducible refine (ro_t _ _ _ _ _ HV.out).mono ?_); rintro e w5 ⟨rfl, hb5⟩; ((first | (have hq5 := bcell_drew hb5) | (have hq5 := bcell hb5))); obtain ⟨hc5, hf5, hz5⟩ := hq5; (try simp at hz5); (try have hx50 : w.heap.size < w5.heap.size := (by omega)); (try have hx51 : w.heap.size + 1 < w5.heap.size := (by omega)); (try have hx52 : w.heap.size + 1 + 1 < w5.heap.size := (by omega)))))
  all_goals (go_wp2; refine bodyPost_ret (v := rt (m0 a b c d p q r s) (m1 a b c d p q r s) (m2 a b c d p q r s) (m3 a b c d p q r s) true) (by simp [results, Try.results171, go_sem, *]) rfl ⟨rfl, ?_⟩)
  all_goals (repeat' (first | (with_reducible exact Below.refl _ _) | (with_reducible refine Below.alloc ?_ ?_ _) | (with_reducible refine Below.drew ?_) | (with_reducible refine Below.setCell ?_ ?_ _) | (with_reducible refine chain ?_ (by assumption) ?_) | omega | (simp; done) | (simp; omega)))
end Go.Proofs.Ytgcligmpdlffoaa
