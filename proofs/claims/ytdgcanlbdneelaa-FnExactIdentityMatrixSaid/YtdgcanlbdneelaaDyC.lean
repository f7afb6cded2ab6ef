/- Contracts of ConjDyadic and its model. -/
import Derived.Test.YtdgcanlbdneelaaDyV
import Derived.Test.YtdgcanlbdneelaaOneArg
import Derived.Test.YtdgcanlbdneelaaSubA
import Derived.Test.YtdgcanlbdneelaaHeld
import Derived.Deep.LoopGhost
import Derived.Deep.RegionWith
namespace Go.Proofs.Ytdgcanlbdneelaa
open Go.RowKit RM
set_option linter.unusedVariables false
set_option linter.unusedSimpArgs false
attribute [local irreducible] World.setCell

set_option maxRecDepth 100000 in
set_option maxHeartbeats 2000000 in
theorem cj_i_t (a b c d : Int) (e : Nat) (w : World) (hv : vd a b c d e = true) :
    Calls Try.prog 61 #[dy a b c d (e : Int)] w fun ee w' => ee = .returned (dt a (-d) (-c) (-b) (e : Int) true) ∧ Below w.heap.size w w' := by
  have HX := hid (vd_iff.1 hv).1
  have HV := hid hv
  clear hv
  go_enter Try.func61, Try.ntmps61
  go_wp2_with (first | (go_at_call 66; ((with_reducible refine (ivd_v _ HV.out).mono ?_); rintro ee w1 ⟨rfl, hb1⟩; obtain ⟨hc1, hf1, _⟩ := bcell hb1; have hz1 := hb1.size; (try simp at hz1); (try have hx10 : w.heap.size < w1.heap.size := (by omega)); (try have hx11 : w.heap.size + 1 < w1.heap.size := (by omega)); (try have hx12 : w.heap.size + 1 + 1 < w1.heap.size := (by omega)); (try have hx13 : w.heap.size + 1 + 1 + 1 < w1.heap.size := (by omega)))) | (go_at_call 88; ((with_reducible refine (conj_i_t _ _ _ _ _ HX.out).mono ?_); rintro ee w2 ⟨rfl, hb2⟩; obtain ⟨hc2, hf2, _⟩ := bcell hb2; have hz2 := hb2.size; (try simp at hz2); (try have hx20 : w.heap.size < w2.heap.size := (by omega)); (try have hx21 : w.heap.size + 1 < w2.heap.size := (by omega)); (try have hx22 : w.heap.size + 1 + 1 < w2.heap.size := (by omega)); (try have hx23 : w.heap.size + 1 + 1 + 1 < w2.heap.size := (by omega)))) | go_in)
  refine bodyPost_ret (v := dt a (-d) (-c) (-b) (e : Int) true) (by first | (simp [results, Try.results61, go_sem, *]; done) | (simp (disch := (first | omega | (simp; done) | (simp; omega))) [results, Try.results61, go_sem, *]; done) | (simp only [results, Try.results61]; go_simp; done)) rfl ⟨rfl, ?_⟩
  repeat' (first | (with_reducible exact Below.refl _ _) | (with_reducible refine Below.alloc ?_ ?_ _) | (with_reducible refine Below.drew ?_) | (with_reducible refine Below.setCell ?_ ?_ _) | (with_reducible refine chain ?_ (by assumption) ?_) | omega | (simp; done) | (simp; omega))

set_option maxRecDepth 100000 in
set_option maxHeartbeats 2000000 in
theorem cj_i_f (a b c d e : Int) (w : World) (hv : vi a b c d e = false) :
    Calls Try.prog 61 #[dy a b c d e] w fun ee w' => ee = .returned (dt 0 0 0 0 0 false) ∧ Below w.heap.size w w' := by
  have HV := hid hv
  clear hv
  go_enter Try.func61, Try.ntmps61
  go_wp2_with (first | (go_at_call 66; ((with_reducible refine (ivd_no _ HV.out).mono ?_); rintro ee w1 ⟨rfl, hb1⟩; obtain ⟨hc1, hf1, _⟩ := bcell hb1; have hz1 := hb1.size; (try simp at hz1); (try have hx10 : w.heap.size < w1.heap.size := (by omega)); (try have hx11 : w.heap.size + 1 < w1.heap.size := (by omega)); (try have hx12 : w.heap.size + 1 + 1 < w1.heap.size := (by omega)); (try have hx13 : w.heap.size + 1 + 1 + 1 < w1.heap.size := (by omega)))) | go_in)
  refine bodyPost_ret (v := dt 0 0 0 0 0 false) (by first | (simp [results, Try.results61, go_sem, *]; done) | (simp (disch := (first | omega | (simp; done) | (simp; omega))) [results, Try.results61, go_sem, *]; done) | (simp only [results, Try.results61]; go_simp; done)) rfl ⟨rfl, ?_⟩
  repeat' (first | (with_reducible exact Below.refl _ _) | (with_reducible refine Below.alloc ?_ ?_ _) | (with_reducible refine Below.drew ?_) | (with_reducible refine Below.setCell ?_ ?_ _) | (with_reducible refine chain ?_ (by assumption) ?_) | omega | (simp; done) | (simp; omega))

set_option maxRecDepth 100000 in
set_option maxHeartbeats 2000000 in
theorem lcj (a b c d : Int) (w : World) (hx : vr a b c d = true) :
    Calls Try.prog 114 #[rg a b c d] w fun ee w' => ee = .returned (rg a (-d) (-c) (-b)) ∧ Below w.heap.size w w' := by
  obtain ⟨⟨a1, a2⟩, ⟨b1, b2⟩, ⟨c1, c2⟩, ⟨d1, d2⟩⟩ := vr_iff.1 hx
  have HX := hid hx
  clear hx
  go_enter Try.func114, Try.ntmps114
  go_wp2_with (first | go_in)
  refine bodyPost_ret (v := rg a (-d) (-c) (-b)) (by first | (simp [results, Try.results114, go_sem, *]; done) | (simp (disch := (first | omega | (simp; done) | (simp; omega))) [results, Try.results114, go_sem, *]; done) | (simp only [results, Try.results114]; go_simp; done)) rfl ⟨rfl, ?_⟩
  repeat' (first | (with_reducible exact Below.refl _ _) | (with_reducible refine Below.alloc ?_ ?_ _) | (with_reducible refine Below.drew ?_) | (with_reducible refine Below.setCell ?_ ?_ _) | (with_reducible refine chain ?_ (by assumption) ?_) | omega | (simp; done) | (simp; omega))

set_option maxRecDepth 100000 in
set_option maxHeartbeats 4000000 in
theorem l2cj (a b c d e : Int) (w : World) (hx : vr a b c d = true) :
    Calls Try.prog 101 #[dy a b c d e] w fun ee w' => ee = .returned (dy a (-d) (-c) (-b) e) ∧ Below w.heap.size w w' := by
  obtain ⟨⟨a1, a2⟩, ⟨b1, b2⟩, ⟨c1, c2⟩, ⟨d1, d2⟩⟩ := vr_iff.1 hx
  have HX := hid hx
  clear hx
  go_enter Try.func101, Try.ntmps101
  go_wp2
  go_region_with (first
   | (go_at_call 114; ((with_reducible refine (lcj _ _ _ _ _ HX.out).mono ?_); rintro ee w1 ⟨rfl, hb1⟩; ((first | (have hq1 := bcell_drew hb1) | (have hq1 := bcell hb1))); obtain ⟨hc1, hf1, hz1⟩ := hq1; (try simp at hz1); (try have hx10 : w.heap.size < w1.heap.size := (by omega)); (try have hx11 : w.heap.size + 1 < w1.heap.size := (by omega)); (try have hx12 : w.heap.size + 1 + 1 < w1.heap.size := (by omega)); (try have hx13 : w.heap.size + 1 + 1 + 1 < w1.heap.size := (by omega)))))
  all_goals (go_wp2; refine bodyPost_ret (v := dy a (-d) (-c) (-b) e) (by first | (simp [results, Try.results101, go_sem, *]; done) | (simp (disch := (first | omega | (simp; done) | (simp; omega))) [results, Try.results101, go_sem, *]; done) | (simp only [results, Try.results101]; go_simp; done)) rfl ⟨rfl, ?_⟩)
  all_goals (repeat' (first | (with_reducible exact Below.refl _ _) | (with_reducible refine Below.alloc ?_ ?_ _) | (with_reducible refine Below.drew ?_) | (with_reducible refine Below.setCell ?_ ?_ _) | (with_reducible refine chain ?_ (by assumption) ?_) | omega | (simp; done) | (simp; omega)))
end Go.Proofs.Ytdgcanlbdneelaa
