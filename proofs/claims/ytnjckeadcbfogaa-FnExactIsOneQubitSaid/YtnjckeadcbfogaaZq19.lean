/- RingS, MulIo -/
import Derived.Test.YtnjckeadcbfogaaZq13
import Derived.Test.YtnjckeadcbfogaaZq18
import Derived.Test.YtnjckeadcbfogaaZq17
import Derived.Test.YtnjckeadcbfogaaZq14
import Derived.Deep.LoopGhost
import Derived.Test.YtnjckeadcbfogaaZq2
import Derived.Deep.RegionWith
namespace Go.Proofs.Ytnjckeadcbfogaa
open Go.RowKit RM
set_option linter.unusedVariables false
set_option linter.unusedSimpArgs false
attribute [local irreducible] World.setCell
theorem wr64 {x : Int} (h1 : -9223372036854775808 ≤ x) (h2 : x ≤ 9223372036854775807) : IntKind.i64.wrap x = x := by
  rw [IntKind.wrap_i64]; first | omega | (simp only [wrap64]; omega) | (rw [Int.bmod_def]; omega)
theorem l2lowx (a b c d x : Int) (e : Nat) (A B C D : Int) (E : Nat) (w : World) (hn : x = (e : Int)) (hx : vr a b c d = true) (he : e ≤ 60) (hl : low e a b c d = ⟨A, B, C, D, E⟩) :
    Calls Try.prog 162 #[rg a b c d, .int .i64 x] w fun ee w' => ee = .returned (dy A B C D E) ∧ Below w.heap.size w w' := by
  subst hn; exact l2low a b c d e A B C D E w hx he hl
theorem dofx (a b c d x : Int) (e : Nat) (A B C D : Int) (E : Nat) (w : World) (hn : x = (e : Int)) (hx : vr a b c d = true) (he : e ≤ 60) (hl : low e a b c d = ⟨A, B, C, D, E⟩) :
    Calls Try.prog 169 #[rg a b c d, .int .i64 x] w fun ee w' => ee = .returned (dt A B C D E true) ∧ Below w.heap.size w w' := by
  subst hn; exact dof_t a b c d e A B C D E w hx he hl
theorem ks5 {a : World} {g k o : Nat} {v v0 v1 v2 v3 v4 : Value} (hne : g ≠ k) (h : a.cell? ⟨k, o, none⟩ = some v) : (((((a.setCell ⟨g, 0, none⟩ v0).setCell ⟨g, 1, none⟩ v1).setCell ⟨g, 2, none⟩ v2).setCell ⟨g, 3, none⟩ v3).setCell ⟨g, 4, none⟩ v4).cell? ⟨k, o, none⟩ = some v := by
  rw [World.cell?_setCell_far _ _ _ _ hne, World.cell?_setCell_far _ _ _ _ hne, World.cell?_setCell_far _ _ _ _ hne, World.cell?_setCell_far _ _ _ _ hne, World.cell?_setCell_far _ _ _ _ hne, h]
/-- a cell behind a call that has set another one -/
theorem kcs {a b : World} {g k o : Nat} {u v : Value} (hb : Below a.heap.size (a.setCell ⟨g, 0, none⟩ u) b) (hne : g ≠ k) (h : a.cell? ⟨k, o, none⟩ = some v) : b.cell? ⟨k, o, none⟩ = some v :=
  (hb.cell (p := ⟨k, o, none⟩) (World.block_lt_of_cell? a _ h)).trans ((World.cell?_setCell_far _ _ _ _ hne).trans h)
theorem kfs {a b : World} {g k o : Nat} {u : Value} (hb : Below a.heap.size (a.setCell ⟨g, 0, none⟩ u) b) (hk : k < a.heap.size) (h : a.frozen? ⟨k, o, none⟩ = false) : b.frozen? ⟨k, o, none⟩ = false :=
  (hb.frozen (p := ⟨k, o, none⟩) hk).trans ((World.frozen?_setCell _ _ _ _).trans h)
theorem bcellB {B : Nat} {W w1 : World} (hb : Below B W w1) : (∀ b o, b < B → w1.cell? ⟨b, o, none⟩ = W.cell? ⟨b, o, none⟩) ∧ (∀ b o, b < B → w1.frozen? ⟨b, o, none⟩ = W.frozen? ⟨b, o, none⟩) ∧ W.heap.size ≤ w1.heap.size :=
  ⟨fun b o h => hb.cell (p := ⟨b, o, none⟩) h, fun b o h => hb.frozen (p := ⟨b, o, none⟩) h, hb.size⟩
theorem kf {a b : World} {k o : Nat} {v : Value} (hb : Below a.heap.size a b) (h : a.cell? ⟨k, o, none⟩ = some v) (hf : a.frozen? ⟨k, o, none⟩ = false) : b.frozen? ⟨k, o, none⟩ = false :=
  (hb.frozen (p := ⟨k, o, none⟩) (World.block_lt_of_cell? a _ h)).trans hf
set_option maxHeartbeats 1000000 in
theorem C5.put {W : World} {k : Nat} {a b c d e : Int} (h : C5 W k a b c d e) (a' b' c' d' e' : Int) : C5 (((((W.setCell ⟨k, 0, none⟩ (.int .i64 a')).setCell ⟨k, 1, none⟩ (.int .i64 b')).setCell ⟨k, 2, none⟩ (.int .i64 c')).setCell ⟨k, 3, none⟩ (.int .i64 d')).setCell ⟨k, 4, none⟩ (.int .i64 e')) k a' b' c' d' e' := by
  obtain ⟨h0, h1, h2, h3, h4, h5, h6, h7, h8, h9⟩ := h
  exact ⟨by go_simp, by go_simp, by go_simp, by go_simp, by go_simp, by go_simp, by go_simp, by go_simp, by go_simp, by go_simp⟩
theorem C5.far {W : World} {k g : Nat} {a b c d e : Int} {v0 v1 v2 v3 v4 : Value} (h : C5 W k a b c d e) (hne : g ≠ k) : C5 (((((W.setCell ⟨g, 0, none⟩ v0).setCell ⟨g, 1, none⟩ v1).setCell ⟨g, 2, none⟩ v2).setCell ⟨g, 3, none⟩ v3).setCell ⟨g, 4, none⟩ v4) k a b c d e :=
  ⟨ks5 hne h.c0, ks5 hne h.c1, ks5 hne h.c2, ks5 hne h.c3, ks5 hne h.c4, by simp [h.f0], by simp [h.f1], by simp [h.f2], by simp [h.f3], by simp [h.f4]⟩
theorem C5.monos {W W' : World} {k g : Nat} {u : Value} {a b c d e : Int} (h : C5 W k a b c d e) (hne : g ≠ k) (hb : Below W.heap.size (W.setCell ⟨g, 0, none⟩ u) W') : C5 W' k a b c d e :=
  ⟨kcs hb hne h.c0, kcs hb hne h.c1, kcs hb hne h.c2, kcs hb hne h.c3, kcs hb hne h.c4, kfs hb h.lt h.f0, kfs hb h.lt h.f1, kfs hb h.lt h.f2, kfs hb h.lt h.f3, kfs hb h.lt h.f4⟩
theorem C5.drew {W : World} {k : Nat} {a b c d e : Int} (h : C5 W k a b c d e) : C5 W.drew k a b c d e := ⟨h.c0, h.c1, h.c2, h.c3, h.c4, h.f0, h.f1, h.f2, h.f3, h.f4⟩

set_option maxRecDepth 100000 in
set_option maxHeartbeats 2000000 in
theorem lrt (a b c d : Int) (w : World) (hx : vr a b c d = true) :
    Calls Try.prog 161 #[rg a b c d] w fun ee w' => ee = .returned (rg (b - d) (a + c) (b + d) (c - a)) ∧ Below w.heap.size w w' := by
  obtain ⟨⟨a1, a2⟩, ⟨b1, b2⟩, ⟨c1, c2⟩, ⟨d1, d2⟩⟩ := vr_iff.1 hx
  have HX := hid hx
  clear hx
  go_enter Try.func161, Try.ntmps161
  go_wp2_with (first | go_in)
  refine bodyPost_ret (v := rg (b - d) (a + c) (b + d) (c - a)) (by first | (simp [results, Try.results161, go_sem, *]; done) | (simp (disch := (first | omega | (simp; done) | (simp; omega))) [results, Try.results161, go_sem, *]; done) | (simp only [results, Try.results161]; go_simp; done)) rfl ⟨rfl, ?_⟩
  repeat' (first | (with_reducible exact Below.refl _ _) | (with_reducible refine Below.alloc ?_ ?_ _) | (with_reducible refine Below.drew ?_) | (with_reducible refine Below.setCell ?_ ?_ _) | (with_reducible refine chain ?_ (by assumption) ?_) | omega | (simp; done) | (simp; omega))

set_option maxRecDepth 100000 in
set_option maxHeartbeats 2000000 in
theorem ring_t (g : Nat) (a b c d : Int) (w : World) (hx : vr a b c d = true) :
    Calls Try.prog 160 #[.pointer (some ⟨g, 0, none⟩), rg a b c d] w fun ee w' => ee = .returned (rg a b c d) ∧ Below w.heap.size w w' := by
  have HX := hid hx
  clear hx
  go_enter Try.func160, Try.ntmps160
  go_wp2_with (first | (go_at_call 191; ((with_reducible refine (lg_t _ _ _ _ _ HX.out).mono ?_); rintro ee w1 ⟨rfl, hb1⟩; obtain ⟨hc1, hf1, _⟩ := bcell hb1; have hz1 := hb1.size; (try simp at hz1); (try have hx10 : w.heap.size < w1.heap.size := (by omega)); (try have hx11 : w.heap.size + 1 < w1.heap.size := (by omega)); (try have hx12 : w.heap.size + 1 + 1 < w1.heap.size := (by omega)); (try have hx13 : w.heap.size + 1 + 1 + 1 < w1.heap.size := (by omega)))) | go_in)
  refine bodyPost_ret (v := rg a b c d) (by first | (simp [results, Try.results160, go_sem, *]; done) | (simp (disch := (first | omega | (simp; done) | (simp; omega))) [results, Try.results160, go_sem, *]; done) | (simp only [results, Try.results160]; go_simp; done)) rfl ⟨rfl, ?_⟩
  repeat' (first | (with_reducible exact Below.refl _ _) | (with_reducible refine Below.alloc ?_ ?_ _) | (with_reducible refine Below.drew ?_) | (with_reducible refine Below.setCell ?_ ?_ _) | (with_reducible refine chain ?_ (by assumption) ?_) | omega | (simp; done) | (simp; omega))

set_option maxRecDepth 100000 in
set_option maxHeartbeats 2000000 in
theorem ring_f (g : Nat) (a b c d : Int) (z : Bool) (w : World) (h0 : w.cell? ⟨g, 0, none⟩ = some (.bool z)) (f0 : w.frozen? ⟨g, 0, none⟩ = false) (hx : vr a b c d = false) :
    Calls Try.prog 160 #[.pointer (some ⟨g, 0, none⟩), rg a b c d] w fun ee w' => ee = .returned (rg 0 0 0 0) ∧ Below w.heap.size (w.setCell ⟨g, 0, none⟩ (.bool true)) w' := by
  have hg := World.block_lt_of_cell? w _ h0
  have hg2 : g < w.heap.size := hg
  have HX := hid hx
  clear hx
  go_enter Try.func160, Try.ntmps160
  go_wp2_with (first | (go_at_call 191; ((with_reducible refine (lg_f _ _ _ _ _ HX.out).mono ?_); rintro ee w1 ⟨rfl, hb1⟩; obtain ⟨hc1, hf1, _⟩ := bcell hb1; have hz1 := hb1.size; (try simp at hz1); (try have hx10 : w.heap.size < w1.heap.size := (by omega)); (try have hx11 : w.heap.size + 1 < w1.heap.size := (by omega)); (try have hx12 : w.heap.size + 1 + 1 < w1.heap.size := (by omega)); (try have hx13 : w.heap.size + 1 + 1 + 1 < w1.heap.size := (by omega)); have gc1 : w1.cell? ⟨g, 0, none⟩ = some (.bool z) := (by rw [hc1 _ _ (by first | omega | (simp; done) | (simp; omega))]; first | assumption | go_simp); have gf1 : w1.frozen? ⟨g, 0, none⟩ = false := (by rw [hf1 _ _ (by first | omega | (simp; done) | (simp; omega))]; first | assumption | go_simp))) | go_in)
  refine bodyPost_ret (v := rg 0 0 0 0) (by first | (simp [results, Try.results160, go_sem, *]; done) | (simp (disch := (first | omega | (simp; done) | (simp; omega))) [results, Try.results160, go_sem, *]; done) | (simp only [results, Try.results160]; go_simp; done)) rfl ⟨rfl, ?_⟩
  repeat' (first | (with_reducible assumption) | (with_reducible exact Below.refl _ _) | (with_reducible refine Below.alloc ?_ ?_ _) | (with_reducible refine Below.drew ?_) | (with_reducible refine both ?_ _ _ ?_ _) | (with_reducible refine Below.setCell ?_ ?_ _) | (with_reducible refine chain2 ?_ (by with_reducible assumption) ?_) | (with_reducible refine chain ?_ (by with_reducible assumption) ?_) | omega | (simp; done) | (simp; omega))

end Go.Proofs.Ytnjckeadcbfogaa
namespace Go.Proofs.Ytnjckeadcbfogaa
open Go.RowKit RM
set_option linter.unusedVariables false
set_option linter.unusedSimpArgs false

set_option maxRecDepth 100000 in
set_option maxHeartbeats 2000000 in
theorem mul_i_o (a b c d p q r s : Int) (w : World) (hx : vr a b c d = true) (hy : vr p q r s = true) (hv : vr (m0 a b c d p q r s) (m1 a b c d p q r s) (m2 a b c d p q r s) (m3 a b c d p q r s) = false) :
    Calls Try.prog 205 #[rg a b c d, rg p q r s] w fun e w' => e = .returned (rt 0 0 0 0 false) ∧ Below w.heap.size w w' := by
  have HX := hid hx
  clear hx
  have HY := hid hy
  clear hy
  have HV := hid hv
  clear hv
  go_enter Try.func205, Try.ntmps205
  go_wp2_with (first | (go_at_call 199; ((with_reducible refine (iv_t _ _ _ _ _ HX.out).mono ?_); rintro e w1 ⟨rfl, hb1⟩; obtain ⟨hc1, hf1, _⟩ := bcell hb1; have hz1 := hb1.size; (try simp at hz1); (try have hx10 : w.heap.size < w1.heap.size := (by omega)); (try have hx11 : w.heap.size + 1 < w1.heap.size := (by omega)); (try have hx12 : w.heap.size + 1 + 1 < w1.heap.size := (by omega)); (try have hx13 : w.heap.size + 1 + 1 + 1 < w1.heap.size := (by omega)))) | (go_at_call 199; ((with_reducible refine (iv_t _ _ _ _ _ HY.out).mono ?_); rintro e w2 ⟨rfl, hb2⟩; obtain ⟨hc2, hf2, _⟩ := bcell hb2; have hz2 := hb2.size; (try simp at hz2); (try have hx20 : w.heap.size < w2.heap.size := (by omega)); (try have hx21 : w.heap.size + 1 < w2.heap.size := (by omega)); (try have hx22 : w.heap.size + 1 + 1 < w2.heap.size := (by omega)); (try have hx23 : w.heap.size + 1 + 1 + 1 < w2.heap.size := (by omega)))))
  go_region_with (first
   | (go_at_call 202; ((with_reducible refine (co _ _ _ _ _).mono ?_); rintro e w3 ⟨rfl, hb3⟩; ((first | (have hq3 := bcell_drew hb3) | (have hq3 := bcell hb3))); obtain ⟨hc3, hf3, hz3⟩ := hq3; (try simp at hz3); (try have hx30 : w.heap.size < w3.heap.size := (by omega)); (try have hx31 : w.heap.size + 1 < w3.heap.size := (by omega)); (try have hx32 : w.heap.size + 1 + 1 < w3.heap.size := (by omega))))
   | (go_at_call 201; ((with_reducible refine (mc _ _ _ _ _ _ _ _ _ HX.out HY.out).mono ?_); rintro e w4 ⟨rfl, hb4⟩; ((first | (have hq4 := bcell_drew hb4) | (have hq4 := bcell hb4))); obtain ⟨hc4, hf4, hz4⟩ := hq4; (try simp at hz4); (try have hx40 : w.heap.size < w4.heap.size := (by omega)); (try have hx41 : w.heap.size + 1 < w4.heap.size := (by omega)); (try have hx42 : w.heap.size + 1 + 1 < w4.heap.size := (by omega))))
   | (go_at_call 200; ((with_reducible refine (ro_f _ _ _ _ _ HV.out).mono ?_); rintro e w5 ⟨rfl, hb5⟩; ((first | (have hq5 := bcell_drew hb5) | (have hq5 := bcell hb5))); obtain ⟨hc5, hf5, hz5⟩ := hq5; (try simp at hz5); (try have hx50 : w.heap.size < w5.heap.size := (by omega)); (try have hx51 : w.heap.size + 1 < w5.heap.size := (by omega)); (try have hx52 : w.heap.size + 1 + 1 < w5.heap.size := (by omega)))))
  all_goals (go_wp2; refine bodyPost_ret (v := rt 0 0 0 0 false) (by simp [results, Try.results205, go_sem, *]) rfl ⟨rfl, ?_⟩)
  all_goals (repeat' (first | (with_reducible exact Below.refl _ _) | (with_reducible refine Below.alloc ?_ ?_ _) | (with_reducible refine Below.drew ?_) | (with_reducible refine Below.setCell ?_ ?_ _) | (with_reducible refine chain ?_ (by assumption) ?_) | omega | (simp; done) | (simp; omega)))

end Go.Proofs.Ytnjckeadcbfogaa
