/- OmegaIb -/
import Derived.Test.YtofclfgaekjonaaZq0
import Derived.Test.YtofclfgaekjonaaZq4
import Derived.Deep.RegionWith
namespace Go.Proofs.Ytofclfgaekjonaa
open Go.RowKit RM
set_option linter.unusedVariables false
set_option linter.unusedSimpArgs false
theorem vr_turn_2 {a b c d : Int} (h : vr a b c d = true) : vr (-c) (-d) a b = true := by
  rw [vr_iff] at *; omega
theorem mc_2 (a b c d : Int) (w : World) (hx : vr a b c d = true) :
    Calls Try.prog 179 #[rg a b c d, rg 0 0 1 0] w fun e w' => e = .returned (rg (-c) (-d) a b) ∧ Below w.heap.size w w' := by
  have h := mc a b c d 0 0 1 0 w hx (by decide)
  have e0 : m0 a b c d 0 0 1 0 = -c := by simp [m0]
  have e1 : m1 a b c d 0 0 1 0 = -d := by simp [m1]
  have e2 : m2 a b c d 0 0 1 0 = a := by simp [m2]
  have e3 : m3 a b c d 0 0 1 0 = b := by simp [m3]
  rw [e0, e1, e2, e3] at h
  exact h

set_option maxRecDepth 100000 in
set_option maxHeartbeats 2000000 in
theorem omega_i_2 (a b c d k : Int) (w : World) (t1 : -7 ≤ k.tmod 8) (t2 : k.tmod 8 ≤ 7) (t3 : (k.tmod 8 + 8) % 8 = 2) (t4 : (k.tmod 8 + 8).tmod 8 = 2) (g1 : -1000 ≤ k) (g2 : k ≤ 1000) (hx : vr a b c d = true) :
    Calls Try.prog 137 #[rg a b c d, .int .i64 k] w fun e w' => e = .returned (rt (-c) (-d) a b true) ∧ Below w.heap.size w w' := by
  have HX := hid hx
  clear hx
  go_enter Try.func137, Try.ntmps137
  go_wp2_with (first | (go_at_call 172; ((with_reducible refine (iv_t _ _ _ _ _ HX.out).mono ?_); rintro e w1 ⟨rfl, hb1⟩; obtain ⟨hc1, hf1, _⟩ := bcell hb1; have hz1 := hb1.size; (try simp at hz1); (try have hx10 : w.heap.size < w1.heap.size := (by omega)); (try have hx11 : w.heap.size + 1 < w1.heap.size := (by omega)); (try have hx12 : w.heap.size + 1 + 1 < w1.heap.size := (by omega)); (try have hx13 : w.heap.size + 1 + 1 + 1 < w1.heap.size := (by omega)))))
  go_region_with (first
   | (go_at_call 180; ((with_reducible refine (co _ _ _ _ _).mono ?_); rintro e w3 ⟨rfl, hb3⟩; ((first | (have hq3 := bcell_drew hb3) | (have hq3 := bcell hb3))); obtain ⟨hc3, hf3, hz3⟩ := hq3; (try simp at hz3); (try have hx30 : w.heap.size < w3.heap.size := (by omega)); (try have hx31 : w.heap.size + 1 < w3.heap.size := (by omega)); (try have ho3 : w1.heap.size < w3.heap.size := (by omega))))
   | (go_at_call 179; ((with_reducible refine (mc_2 _ _ _ _ _ HX.out).mono ?_); rintro e w4 ⟨rfl, hb4⟩; ((first | (have hq4 := bcell_drew hb4) | (have hq4 := bcell hb4))); obtain ⟨hc4, hf4, hz4⟩ := hq4; (try simp at hz4); (try have hx40 : w.heap.size < w4.heap.size := (by omega)); (try have hx41 : w.heap.size + 1 < w4.heap.size := (by omega)); (try have ho4 : w1.heap.size < w4.heap.size := (by omega))))
   | (go_at_call 178; ((with_reducible refine (ro_t _ _ _ _ _ (vr_turn_2 HX.out)).mono ?_); rintro e w5 ⟨rfl, hb5⟩; ((first | (have hq5 := bcell_drew hb5) | (have hq5 := bcell hb5))); obtain ⟨hc5, hf5, hz5⟩ := hq5; (try simp at hz5); (try have hx50 : w.heap.size < w5.heap.size := (by omega)); (try have hx51 : w.heap.size + 1 < w5.heap.size := (by omega)); (try have ho5 : w1.heap.size < w5.heap.size := (by omega)))))
  all_goals (go_wp2; refine bodyPost_ret (v := rt (-c) (-d) a b true) (by simp [results, Try.results137, go_sem, *]) rfl ⟨rfl, ?_⟩)
  all_goals (repeat' (first | (with_reducible exact Below.refl _ _) | (with_reducible refine Below.alloc ?_ ?_ _) | (with_reducible refine Below.drew ?_) | (with_reducible refine Below.setCell ?_ ?_ _) | (with_reducible refine chain ?_ (by assumption) ?_) | omega | (simp; done) | (simp; omega)))
theorem vr_turn_3 {a b c d : Int} (h : vr a b c d = true) : vr (-b) (-c) (-d) a = true := by
  rw [vr_iff] at *; omega
theorem mc_3 (a b c d : Int) (w : World) (hx : vr a b c d = true) :
    Calls Try.prog 179 #[rg a b c d, rg 0 0 0 1] w fun e w' => e = .returned (rg (-b) (-c) (-d) a) ∧ Below w.heap.size w w' := by
  have h := mc a b c d 0 0 0 1 w hx (by decide)
  have e0 : m0 a b c d 0 0 0 1 = -b := by simp [m0]
  have e1 : m1 a b c d 0 0 0 1 = -c := by simp [m1]
  have e2 : m2 a b c d 0 0 0 1 = -d := by simp [m2]
  have e3 : m3 a b c d 0 0 0 1 = a := by simp [m3]
  rw [e0, e1, e2, e3] at h
  exact h

set_option maxRecDepth 100000 in
set_option maxHeartbeats 2000000 in
theorem omega_i_3 (a b c d k : Int) (w : World) (t1 : -7 ≤ k.tmod 8) (t2 : k.tmod 8 ≤ 7) (t3 : (k.tmod 8 + 8) % 8 = 3) (t4 : (k.tmod 8 + 8).tmod 8 = 3) (g1 : -1000 ≤ k) (g2 : k ≤ 1000) (hx : vr a b c d = true) :
    Calls Try.prog 137 #[rg a b c d, .int .i64 k] w fun e w' => e = .returned (rt (-b) (-c) (-d) a true) ∧ Below w.heap.size w w' := by
  have HX := hid hx
  clear hx
  go_enter Try.func137, Try.ntmps137
  go_wp2_with (first | (go_at_call 172; ((with_reducible refine (iv_t _ _ _ _ _ HX.out).mono ?_); rintro e w1 ⟨rfl, hb1⟩; obtain ⟨hc1, hf1, _⟩ := bcell hb1; have hz1 := hb1.size; (try simp at hz1); (try have hx10 : w.heap.size < w1.heap.size := (by omega)); (try have hx11 : w.heap.size + 1 < w1.heap.size := (by omega)); (try have hx12 : w.heap.size + 1 + 1 < w1.heap.size := (by omega)); (try have hx13 : w.heap.size + 1 + 1 + 1 < w1.heap.size := (by omega)))))
  go_region_with (first
   | (go_at_call 180; ((with_reducible refine (co _ _ _ _ _).mono ?_); rintro e w3 ⟨rfl, hb3⟩; ((first | (have hq3 := bcell_drew hb3) | (have hq3 := bcell hb3))); obtain ⟨hc3, hf3, hz3⟩ := hq3; (try simp at hz3); (try have hx30 : w.heap.size < w3.heap.size := (by omega)); (try have hx31 : w.heap.size + 1 < w3.heap.size := (by omega)); (try have ho3 : w1.heap.size < w3.heap.size := (by omega))))
   | (go_at_call 179; ((with_reducible refine (mc_3 _ _ _ _ _ HX.out).mono ?_); rintro e w4 ⟨rfl, hb4⟩; ((first | (have hq4 := bcell_drew hb4) | (have hq4 := bcell hb4))); obtain ⟨hc4, hf4, hz4⟩ := hq4; (try simp at hz4); (try have hx40 : w.heap.size < w4.heap.size := (by omega)); (try have hx41 : w.heap.size + 1 < w4.heap.size := (by omega)); (try have ho4 : w1.heap.size < w4.heap.size := (by omega))))
   | (go_at_call 178; ((with_reducible refine (ro_t _ _ _ _ _ (vr_turn_3 HX.out)).mono ?_); rintro e w5 ⟨rfl, hb5⟩; ((first | (have hq5 := bcell_drew hb5) | (have hq5 := bcell hb5))); obtain ⟨hc5, hf5, hz5⟩ := hq5; (try simp at hz5); (try have hx50 : w.heap.size < w5.heap.size := (by omega)); (try have hx51 : w.heap.size + 1 < w5.heap.size := (by omega)); (try have ho5 : w1.heap.size < w5.heap.size := (by omega)))))
  all_goals (go_wp2; refine bodyPost_ret (v := rt (-b) (-c) (-d) a true) (by simp [results, Try.results137, go_sem, *]) rfl ⟨rfl, ?_⟩)
  all_goals (repeat' (first | (with_reducible exact Below.refl _ _) | (with_reducible refine Below.alloc ?_ ?_ _) | (with_reducible refine Below.drew ?_) | (with_reducible refine Below.setCell ?_ ?_ _) | (with_reducible refine chain ?_ (by assumption) ?_) | omega | (simp; done) | (simp; omega)))
end Go.Proofs.Ytofclfgaekjonaa
